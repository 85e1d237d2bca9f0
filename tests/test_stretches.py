"""Point 26: useful rooms, and the two runs that show that a stretch is not odd."""

import itertools
import random
import unittest

from logloom.machines import lets_by
from logloom.odd import is_odd
from logloom.stretches import shown, useful
from trying import (
    a_machine, all_machines, is_let_by, is_plain, machines_drawn, rooms_from, runs_in_order, stretches_let_by,
)

TRUTHS = list(itertools.product((False, True), repeat=2))
# Room 3 is not reached; from room 2 nothing good is.
SOME = (2, ((False, (1, 2)), (True, (0, 2)), (False, (2, 2)), (True, (0, 3))))
NOTHING = (2, ((False, (1, 0)), (False, (0, 1)), (True, (0, 1))))
EVERYTHING = (2, ((True, (1, 0)), (True, (0, 1))))


class Useful(unittest.TestCase):
    def test_only_rooms_that_are_reached_and_lead_to_a_good_one(self):
        self.assertEqual(useful(SOME), (0, 1))
        self.assertEqual(useful(EVERYTHING), (0, 1))

    def test_where_nothing_is_let_by(self):
        self.assertEqual(useful(NOTHING), ())
        self.assertEqual(useful((0, ((False, ()),))), ())
        self.assertEqual(useful((3, ((False, (0, 0, 0)), (True, (0, 0, 0))))), ())

    def test_a_good_room_is_useful_itself(self):
        self.assertEqual(useful((0, ((True, ()),))), (0,))
        self.assertEqual(useful((1, ((True, (1,)), (False, (1,))))), (0,))

    def test_rising_where_rooms_are_met_in_another_order(self):
        machine = (2, ((False, (3, 1)), (True, (1, 1)), (False, (1, 2)), (False, (4, 2)), (False, (4, 4))))
        self.assertEqual(useful(machine), (0, 1, 2, 3))

    def test_a_long_way_to_the_only_good_room(self):
        for size in (12, 150):
            onwards = (1, tuple((room == size - 1, (min(room + 1, size - 1),)) for room in range(size)))
            self.assertEqual(useful(onwards), tuple(range(size)))
            ring = (1, tuple((room == 0, ((room - 1) % size,)) for room in range(size)))
            self.assertEqual(useful(ring), tuple(range(size)))

    def test_held_against_all_runs(self):
        machines = list(all_machines(1, 3)) + list(all_machines(2, 2)) + list(machines_drawn(111, 150))
        for machine in machines:
            reached = rooms_from(machine, 0)
            rooms = [room for room in sorted(reached) if any(machine[1][there][0] for there in rooms_from(machine, room))]
            self.assertEqual(useful(machine), tuple(rooms), machine)


class Shown(unittest.TestCase):
    def assertShows(self, told, machine, run, head, tail):
        self.assertIs(type(told), tuple)
        self.assertTrue(is_plain(told))
        first, last = told
        self.assertTrue(is_let_by(machine, first + run + last), (machine, run, told))
        self.assertLessEqual(len(first), len(machine[1]))
        self.assertLessEqual(len(last), len(machine[1]))
        if head:
            self.assertEqual(first, ())
        if tail:
            self.assertEqual(last, ())

    def test_some(self):
        # Runs of noughts alone, of odd length, are let by.
        for run, head, tail in (((), True, False), ((), False, True), ((0, 0), True, False), ((0, 0), False, True)):
            self.assertShows(shown(SOME, run, head, tail), SOME, run, head, tail)
        self.assertShows(shown(SOME, (0,), True, True), SOME, (0,), True, True)
        self.assertIsNone(shown(SOME, (0, 0), True, True))
        self.assertIsNone(shown(SOME, (), True, True))
        self.assertIsNone(shown(SOME, (0, 1), False, False))

    def test_where_nothing_is_let_by(self):
        for head, tail in TRUTHS:
            for run in ((), (0,), (1, 0, 1)):
                self.assertIsNone(shown(NOTHING, run, head, tail))

    def test_where_everything_is_let_by(self):
        for head, tail in TRUTHS:
            for run in ((), (0,), (1, 0, 1), (1,) * 200):
                self.assertShows(shown(EVERYTHING, run, head, tail), EVERYTHING, run, head, tail)

    def test_rooms_that_are_not_reached_do_not_count(self):
        self.assertIsNone(shown(SOME, (1,), False, True))
        self.assertIsNone(shown(SOME, (1,), False, False))

    def test_machines_of_no_letters(self):
        for head, tail in TRUTHS:
            self.assertEqual(shown((0, ((True, ()),)), (), head, tail), ((), ()))
            self.assertIsNone(shown((0, ((False, ()),)), (), head, tail))
            self.assertIsNone(shown((0, ((False, ()), (True, ()))), (), head, tail))

    def test_machines_of_eight_letters(self):
        chance = random.Random(112)
        found = {True: 0, False: 0}
        for turn in range(150):
            machine = a_machine(chance, 8, 12)
            machine = 8, tuple((good and chance.random() < 0.2, nexts) for good, nexts in machine[1])
            run = tuple(chance.randrange(8) for letter in range(chance.randint(0, 10)))
            for head, tail in TRUTHS:
                told = shown(machine, run, head, tail)
                found[told is None] += 1
                if told is not None:
                    self.assertShows(told, machine, run, head, tail)
        self.assertGreater(min(found.values()), 50)

    def test_the_longest_ways_are_no_longer_than_the_rooms(self):
        for size in (2, 12, 150):
            # One letter leads on, the other one back to the first room; the last room is left at once.
            rooms = [(room == size // 2, ((room + 1) % size, 0)) for room in range(size)]
            for run in ((0,) * (size - 1), (0,) * size, (), (1,)):
                for head, tail in TRUTHS:
                    told = shown((2, tuple(rooms)), run, head, tail)
                    if told is not None:
                        self.assertShows(told, (2, tuple(rooms)), run, head, tail)

    def test_none_just_where_the_stretch_is_odd(self):
        machines = list(all_machines(1, 2)) + list(all_machines(2, 2)) + list(machines_drawn(113, 60, 2, 3))
        found = {True: 0, False: 0}
        for machine in machines:
            had = stretches_let_by(machine, 3)
            for run in runs_in_order(machine[0], 3):
                for head, tail in TRUTHS:
                    told = shown(machine, run, head, tail)
                    self.assertEqual(told is not None, (run, head, tail) in had, (machine, run, head, tail))
                    self.assertEqual(told is None, is_odd(machine, run, head, tail))
                    found[told is None] += 1
                    if told is not None:
                        self.assertShows(told, machine, run, head, tail)
        self.assertGreater(min(found.values()), 500)

    def test_a_run_let_by_is_shown_by_itself(self):
        for machine in machines_drawn(114, 100):
            for run in runs_in_order(machine[0], 3):
                told = shown(machine, run, True, True)
                self.assertEqual(told, ((), ()) if lets_by(machine, run) else None)

    def test_long_stretches(self):
        ring = (1, tuple((room == 0, ((room + 1) % 12,)) for room in range(12)))
        for many in range(190, 201):
            for head, tail in TRUTHS:
                told = shown(ring, (0,) * many, head, tail)
                if head and tail and many % 12:
                    self.assertIsNone(told)
                else:
                    self.assertShows(told, ring, (0,) * many, head, tail)


if __name__ == "__main__":
    unittest.main()
