"""Stretches that no run let by has, and the first shortest one of a run."""

from logloom.machines import lets_by
from logloom.stretches import shown
from logloom.stretches import useful


def is_odd(machine, run, head, tail):
    return shown(machine, run, head, tail) is None


def rooms_on(machine, rooms, letter, known):
    behind = [machine[1][room][1][letter] for room in rooms]
    return [room for room in sorted(set(behind)) if room in known]


def least_odd(machine, run, start, head, known):
    # Known are the useful rooms: a stretch that some run let by has leads from one of them to one of them.
    rooms = [room for room in known if room == 0 or not head]
    for stop in range(start, len(run)):
        if len(rooms) == 0:
            return (start, stop, head, False)
        rooms = rooms_on(machine, rooms, run[stop], known)
    if len(rooms) == 0:
        return (start, len(run), head, False)
    if not any([machine[1][room][0] for room in rooms]):
        return (start, len(run), head, True)
    return None


def size_of(stretch):
    return stretch[1] - stretch[0] + len([truth for truth in stretch[2:] if truth])


def odd(machine, run):
    if lets_by(machine, run):
        return None
    known = {}
    for room in useful(machine):
        known[room] = True
    found = [least_odd(machine, run, 0, True, known)]
    for start in range(len(run) + 1):
        found.append(least_odd(machine, run, start, False, known))
    # They stand in their order, and of several that are least the first is told.
    return min([stretch for stretch in found if stretch is not None], key=size_of)
