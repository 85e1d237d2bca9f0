"""Lonely beginnings: each two of them are apart."""

from logloom.beginnings import apart
from logloom.beginnings import beginnings


def apart_behind(number, starts, good, bad):
    # Only greater numbers: what is chosen rises.
    here = starts[number]
    return [other for other in range(number + 1, len(starts)) if apart(good, bad, here, starts[other]) is not None]


def first_lonely(left, near, size):
    # Left are the numbers that are apart from all those chosen so far.
    if size == 0:
        return ()
    for number in left:
        others = first_lonely([other for other in near[number] if other in left], near, size - 1)
        if others is not None:
            return (number,) + others
    return None


def lonely(good, bad, size):
    starts = beginnings(good, bad)
    numbers = list(range(len(starts)))
    near = [apart_behind(number, starts, good, bad) for number in numbers]
    chosen = first_lonely(numbers, near, size)
    return None if chosen is None else tuple([starts[number] for number in chosen])
