"""Rows put together in groups, as few as can be, and the forms read off from them."""

from logloom.errors import TooMany
from logloom.forms import writes
from logloom.joins import form_within
from logloom.joins import least_form
from logloom.joins import unlike

MOST_UNLIKE = 8


def rows_in(group, known):
    return [known[number] for number in group]


def writes_others(form, group, known):
    return any([writes(form, row) for number, row in enumerate(known) if number not in group])


def groups_on(group, known, most):
    # A group without a form is not gone on from: further rows bring none back.
    form = form_within(rows_in(group, known), most)
    if form is None:
        return []
    found = [] if writes_others(form, group, known) else [group]
    for number in range(group[-1] + 1, len(known)):
        found.extend(groups_on(group + (number,), known, most))
    return found


def first_grouping(left, choices, many):
    # The choices of each first number stand in their order, so the grouping found first is the first.
    if len(left) == 0:
        return ()
    if many == 0:
        return None
    for group in choices[left[0]]:
        if all([number in left for number in group]):
            rest = [number for number in left if number not in group]
            others = first_grouping(rest, choices, many - 1)
            if others is not None:
                return (group,) + others
    return None


def groups(rows, most=2):
    known = unlike(rows)
    if len(known) > MOST_UNLIKE:
        raise TooMany(len(known))
    numbers = list(range(len(known)))
    choices = [groups_on((number,), known, most) for number in numbers]
    for many in range(len(known)):
        grouping = first_grouping(numbers, choices, many)
        if grouping is not None:
            return grouping
    # No fewer do: each row stands by itself.
    return tuple([(number,) for number in numbers])


def forms_of(rows, most=2):
    known = unlike(rows)
    return tuple([least_form(rows_in(group, known)) for group in groups(rows, most)])
