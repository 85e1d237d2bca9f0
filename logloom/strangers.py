"""Strangers: rows of which no two are written by one form, as many as the groups."""

from logloom.groups import groups
from logloom.joins import form_within
from logloom.joins import unlike


def are_strangers(one, other, most):
    return form_within((one, other), most) is None


def first_strangers(chosen, known, most, size):
    if len(chosen) == size:
        return chosen
    start = chosen[-1] + 1 if len(chosen) > 0 else 0
    for number in range(start, len(known)):
        if all([are_strangers(known[other], known[number], most) for other in chosen]):
            found = first_strangers(chosen + (number,), known, most, size)
            if found is not None:
                return found
    return None


def strangers(rows, most=2):
    size = len(groups(rows, most))
    return first_strangers((), unlike(rows), most, size)
