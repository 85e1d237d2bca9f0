"""Machines read off from good and bad runs, with the fewest rooms."""

from logloom.beginnings import beginnings
from logloom.errors import Clash
from logloom.errors import TooGreat
from logloom.errors import TooWide

MOST_WIDE = 9


def step_to(run, given):
    return (given[run[:-1]], run[-1])


def rooms_given(starts, steps):
    # Steps tell to which room a letter leads from a room; where one is not chosen yet, the giving ends there.
    given = {(): 0}
    for run in starts[1:]:
        step = step_to(run, given)
        if step not in steps:
            return given
        given[run] = steps[step]
    return given


def rooms_of(runs, given):
    return [given[run] for run in runs if run in given]


def first_steps(starts, good, bad, size, steps):
    # Rooms are tried from the least on in the order of the beginnings, so the giving found first is the first.
    given = rooms_given(starts, steps)
    spoiled = rooms_of(bad, given)
    if any([room in spoiled for room in rooms_of(good, given)]):
        return None
    if len(given) == len(starts):
        return steps
    step = step_to(starts[len(given)], given)
    # Of rooms that no beginning has yet only the least is tried: the others would do just as well, but later.
    for room in range(min(size, max(given.values()) + 2)):
        more = dict(steps)
        more[step] = room
        found = first_steps(starts, good, bad, size, more)
        if found is not None:
            return found
    return None


def machine_by(many, size, steps, goods):
    rooms = []
    for room in range(size):
        nexts = [steps.get((room, letter), room) for letter in range(many)]
        rooms.append((room in goods, tuple(nexts)))
    return (many, tuple(rooms))


def read_off(many, good, bad, most=3):
    for run in good:
        if run in bad:
            raise Clash(run)
    starts = beginnings(good, bad)
    wide = min(many * most, len(starts) - 1)
    if wide > MOST_WIDE:
        raise TooWide(wide)
    for size in range(1, most + 1):
        steps = first_steps(starts, good, bad, size, {})
        if steps is not None:
            return machine_by(many, size, steps, rooms_of(good, rooms_given(starts, steps)))
    raise TooGreat(most)
