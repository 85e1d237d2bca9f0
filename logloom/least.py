"""The least machine that lets by the same runs."""

from logloom.parting import kinds_by_length


def least(machine):
    rooms = machine[1]
    kinds = kinds_by_length(rooms)[-1]
    # One room of each kind that is reached, gone on from as they are met: so they stand in the order of their ways.
    chosen = [0]
    numbers = {kinds[0]: 0}
    done = 0
    while done < len(chosen):
        here = chosen[done]
        for there in rooms[here][1]:
            if kinds[there] not in numbers:
                numbers[kinds[there]] = len(chosen)
                chosen.append(there)
        done = done + 1
    return (machine[0], tuple([merged_room(rooms[room], kinds, numbers) for room in chosen]))


def merged_room(room, kinds, numbers):
    return (room[0], tuple([numbers[kinds[there]] for there in room[1]]))
