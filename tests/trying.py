"""What several tests hold answers against, written apart from the program: plain values, forms tried out one by one."""

import itertools

from logloom.forms import writes
from logloom.sorts import sort_of


def is_plain(value):
    if type(value) is tuple:
        return all(is_plain(part) for part in value)
    return value is None or type(value) in (int, str, bool)


def forms_that_write(row, most):
    """Every form with at most so many gaps that writes the row."""
    found = []
    for gaps in itertools.product((False, True), repeat=len(row)):
        if sum(gaps) <= most:
            parts = [("gap", sort_of(word)) if gap else ("word", word) for word, gap in zip(row, gaps)]
            found.append(tuple(parts))
    return found


def forms_that_write_all(rows, most):
    return [form for form in forms_that_write(rows[0], most) if all(writes(form, row) for row in rows)]


def many_gaps(form):
    return sum(kind == "gap" for kind, held in form)


def least_by_trying(rows, most=8):
    """The form with the fewest gaps that writes all the rows, or None."""
    return min(forms_that_write_all(rows, most), key=many_gaps, default=None)


def some_rows(chance, many, length, words):
    """Unlike rows drawn from few words, so that many of them go together."""
    rows = []
    for row in range(many):
        rows.append(tuple(chance.choice(words) for word in range(length)))
    return tuple(dict.fromkeys(rows))
