"""Forms, which write rows: words that stand, and gaps for words of a sort."""

from logloom.errors import NoFit
from logloom.errors import NoGap
from logloom.sorts import sort_of


def is_gap(part):
    return part[0] == "gap"


def part_takes(part, word):
    if is_gap(part):
        return sort_of(word) == part[1]
    return word == part[1]


def first_misfit(parts, words):
    # None where all fit; unlike lengths count only where nothing else does.
    shared = min(len(parts), len(words))
    for at in range(shared):
        if not part_takes(parts[at], words[at]):
            return at
    return None if len(parts) == len(words) else shared


def writes(form, row):
    return first_misfit(form, row) is None


def gaps_of(form, row):
    at = first_misfit(form, row)
    if at is not None:
        raise NoFit(at)
    return tuple([word for part, word in zip(form, row) if is_gap(part)])


def filled(form, gaps):
    words = []
    done = 0
    for part in form:
        if is_gap(part):
            words.append(gaps[done])
            done = done + 1
        else:
            words.append(part[1])
    return tuple(words)


def written(form, gaps):
    at = first_misfit([part for part in form if is_gap(part)], gaps)
    if at is not None:
        raise NoGap(at)
    return " ".join(filled(form, gaps))


def first_writing(forms, row):
    # The number of the first form that writes the row, None where none does.
    for number, form in enumerate(forms):
        if writes(form, row):
            return number
    return None
