"""What several tests hold answers against, written apart from the program: plain values, and forms, machines and runs
gone through one by one."""

import itertools
import random

from logloom.forms import writes
from logloom.sorts import sort_of


def is_plain(value):
    if type(value) is tuple:
        return all(is_plain(part) for part in value)
    return value is None or type(value) in (int, str, bool)


def forms_that_write(row, most):
    """Every form with at most so many gaps that writes the row."""
    found = []
    for gaps in itertools.product((False, True), repeat=len(row)):
        if sum(gaps) <= most:
            parts = [("gap", sort_of(word)) if gap else ("word", word) for word, gap in zip(row, gaps)]
            found.append(tuple(parts))
    return found


def forms_that_write_all(rows, most):
    return [form for form in forms_that_write(rows[0], most) if all(writes(form, row) for row in rows)]


def many_gaps(form):
    return sum(kind == "gap" for kind, held in form)


def least_by_trying(rows, most=8):
    """The form with the fewest gaps that writes all the rows, or None."""
    return min(forms_that_write_all(rows, most), key=many_gaps, default=None)


def some_rows(chance, many, length, words):
    """Unlike rows drawn from few words, so that many of them go together."""
    rows = []
    for row in range(many):
        rows.append(tuple(chance.choice(words) for word in range(length)))
    return tuple(dict.fromkeys(rows))


def a_machine(chance, many, size):
    rooms = []
    for room in range(size):
        nexts = tuple(chance.randrange(size) for letter in range(many))
        rooms.append((chance.choice((True, False)), nexts))
    return many, tuple(rooms)


def machines_drawn(seed, turns, most_letters=3, most_rooms=6):
    chance = random.Random(seed)
    for turn in range(turns):
        many = chance.randint(0, most_letters)
        yield a_machine(chance, many, chance.randint(1, most_rooms))


def all_machines(many, size):
    """Each machine of so many letters and rooms."""
    leads = list(itertools.product(range(size), repeat=many))
    rooms = list(itertools.product((False, True), leads))
    for chosen in itertools.product(rooms, repeat=size):
        yield many, chosen


def runs_in_order(many, longest):
    for length in range(longest + 1):
        yield from itertools.product(range(many), repeat=length)


def is_let_by(machine, run, room=0):
    for letter in run:
        room = machine[1][room][1][letter]
    return machine[1][room][0]


def least_machine_by_trying(machine):
    """Rooms are what is let by behind a run: so many letters as there are rooms tell all of them apart."""
    many, size = machine[0], len(machine[1])
    tails = list(runs_in_order(many, size - 1))
    numbers, firsts = {}, []
    for run in runs_in_order(many, size - 1):
        told = tuple(is_let_by(machine, run + tail) for tail in tails)
        if told not in numbers:
            numbers[told] = len(numbers)
            firsts.append(run)
    rooms = []
    for run in firsts:
        behind = [tuple(is_let_by(machine, run + (letter,) + tail) for tail in tails) for letter in range(many)]
        rooms.append((is_let_by(machine, run), tuple(numbers[told] for told in behind)))
    return many, tuple(rooms)


def shuffled(chance, machine):
    """The same machine with its rooms, but for the first one, in another order."""
    many, rooms = machine
    places = list(range(1, len(rooms)))
    chance.shuffle(places)
    places = [0] + places
    numbers = {room: place for place, room in enumerate(places)}
    return many, tuple((rooms[room][0], tuple(numbers[there] for there in rooms[room][1])) for room in places)


def doubled(chance, machine):
    """Each room twice, and by each letter to one of both by chance: the same runs are let by."""
    many, rooms = machine
    found = []
    for room in range(2 * len(rooms)):
        good, nexts = rooms[room % len(rooms)]
        found.append((good, tuple(there + len(rooms) * chance.randrange(2) for there in nexts)))
    return many, tuple(found)


def runs_drawn(chance, many, most_runs, longest):
    """Good runs and bad runs, none of them both."""
    good, bad = [], []
    for place in range(chance.randint(0, 2 * most_runs)):
        run = tuple(chance.randrange(many) for letter in range(chance.randint(0, longest)))
        kind, others = (good, bad) if chance.random() < 0.5 else (bad, good)
        if run not in others and len(kind) < most_runs:
            kind.append(run)
    return tuple(good), tuple(bad)


def stretches_of(run):
    """Each stretch that the run has: its letters, whether at the beginning, whether at the end."""
    for start in range(len(run) + 1):
        for stop in range(start, len(run) + 1):
            for head in (True, False) if start == 0 else (False,):
                for tail in (True, False) if stop == len(run) else (False,):
                    yield run[start:stop], head, tail


def stretches_let_by(machine, longest):
    """Each stretch of at most so many letters that some run let by has. Of all runs that have one, a shortest that is
    let by has fewer letters ahead of it than there are rooms, and fewer behind it, for no room is come by twice."""
    size = len(machine[1])
    found = set()
    for run in runs_in_order(machine[0], longest + 2 * (size - 1)):
        if is_let_by(machine, run):
            found.update(stretch for stretch in stretches_of(run) if len(stretch[0]) <= longest)
    return found


def rooms_led_to(machine, rooms, run):
    for letter in run:
        rooms = {machine[1][room][1][letter] for room in rooms}
    return rooms


def rooms_from(machine, room):
    """Each room that some run leads to from this one."""
    found, left = {room}, [room]
    while left:
        for there in machine[1][left.pop()][1]:
            if there not in found:
                found.add(there)
                left.append(there)
    return found


def is_odd_by_rooms(machine, run, head, tail):
    """By the rooms that runs lead to, for runs that are too long to be gone through."""
    behind = rooms_led_to(machine, {0} if head else rooms_from(machine, 0), run)
    if not tail:
        behind = {there for room in behind for there in rooms_from(machine, room)}
    return not any(machine[1][room][0] for room in behind)
