"""Runs by which two rooms part, and two machines."""


def finer_kinds(rooms, kinds):
    # Rooms stay of one kind where they were, and where each letter leads them to rooms of one kind.
    numbers = {}
    found = []
    for room, kind in zip(rooms, kinds):
        mark = (kind, tuple([kinds[there] for there in room[1]]))
        found.append(numbers.setdefault(mark, len(numbers)))
    return found


def kinds_by_length(rooms):
    # At place k two rooms are of one kind where no run of at most k letters parts them; at the last where none does.
    found = [[room[0] for room in rooms]]
    kinds = finer_kinds(rooms, found[0])
    while len(set(kinds)) > len(set(found[-1])):
        found.append(kinds)
        kinds = finer_kinds(rooms, kinds)
    return found


def parting_letter(one, other, kinds):
    for letter in range(len(one)):
        if kinds[one[letter]] != kinds[other[letter]]:
            return letter
    return None


def rooms_part(machine, one, other):
    rooms = machine[1]
    found = kinds_by_length(rooms)
    alike = [kinds for kinds in found if kinds[one] == kinds[other]]
    if len(alike) == len(found):
        return None
    here = one
    there = other
    run = ()
    # So many letters are needed as there are kinds by which the rooms are alike; each is the least that leads on.
    for kinds in reversed(alike):
        letter = parting_letter(rooms[here][1], rooms[there][1], kinds)
        run = run + (letter,)
        here = rooms[here][1][letter]
        there = rooms[there][1][letter]
    return run


def moved_room(room, far):
    return (room[0], tuple([there + far for there in room[1]]))


def machines_part(one, other):
    # Both stand in one machine, so that they part where their first rooms do.
    size = len(one[1])
    moved = [moved_room(room, size) for room in other[1]]
    return rooms_part((one[0], one[1] + tuple(moved)), 0, size)
