"""Machines, the rooms that runs lead to, and the runs that are let by."""


def run_order(run):
    # By this runs are sorted: the shorter one first, then the one that is less.
    return (len(run), run)


def room_behind(machine, room, run):
    rooms = machine[1]
    here = room
    for letter in run:
        here = rooms[here][1][letter]
    return here


def lets_by(machine, run):
    return machine[1][room_behind(machine, 0, run)][0]


def ways(machine):
    # Rooms are gone on from in the order in which they are met, so each is met first by its way.
    rooms = machine[1]
    found = [(0, ())]
    met = {0: True}
    done = 0
    while done < len(found):
        here = found[done][0]
        way = found[done][1]
        for letter, room in enumerate(rooms[here][1]):
            if room not in met:
                met[room] = True
                found.append((room, way + (letter,)))
        done = done + 1
    return tuple(found)
