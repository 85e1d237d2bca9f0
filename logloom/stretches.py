"""Stretches of runs that some run let by has, shown by what stands ahead of them and behind them."""

from logloom.machines import room_behind
from logloom.machines import ways


def letter_into(nexts, known):
    for letter, there in enumerate(nexts):
        if there in known:
            return letter
    return None


def runs_to_good(machine):
    # Each room goes on to one that was known ahead of it, so no run comes by a room twice.
    rooms = machine[1]
    known = {}
    for number, room in enumerate(rooms):
        if room[0]:
            known[number] = ()
    before = 0
    while before < len(known):
        before = len(known)
        for number, room in enumerate(rooms):
            letter = letter_into(room[1], known)
            if number not in known and letter is not None:
                known[number] = (letter,) + known[room[1][letter]]
    return known


def useful(machine):
    known = runs_to_good(machine)
    return tuple(sorted([room for room, way in ways(machine) if room in known]))


def shown(machine, run, head, tail):
    known = runs_to_good(machine)
    starts = ((0, ()),) if head else ways(machine)
    for room, way in starts:
        behind = room_behind(machine, room, run)
        # Where the stretch stands at the end, nothing may come behind it: its room is to be good itself.
        if behind in known and (known[behind] == () or not tail):
            return (way, known[behind])
    return None
