"""Rows joined: those that are unlike, and the least form that writes some of them."""

from logloom.forms import is_gap
from logloom.sorts import sort_of


def unlike(rows):
    met = []
    for row in rows:
        if row not in met:
            met.append(row)
    return tuple(met)


def words_at(place, rows):
    return [row[place] for row in rows]


def least_part(words):
    first = words[0]
    if all([word == first for word in words]):
        return ("word", first)
    sort = sort_of(first)
    if all([sort_of(word) == sort for word in words]):
        return ("gap", sort)
    return None


def least_form(rows):
    if len(set([len(row) for row in rows])) != 1:
        return None
    parts = [least_part(words_at(place, rows)) for place in range(len(rows[0]))]
    return None if None in parts else tuple(parts)


def form_within(rows, most):
    # Of all forms that write the rows the least one has the fewest gaps, so no other need be tried.
    form = least_form(rows)
    if form is None or len([part for part in form if is_gap(part)]) > most:
        return None
    return form
