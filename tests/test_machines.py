"""Points 11 and 12: machines, runs, and the ways to the rooms."""

import unittest

from logloom.machines import lets_by, room_behind, ways
from trying import machines_drawn, runs_in_order

# Lets by the runs with an even number of ones.
EVEN = (2, ((True, (0, 1)), (False, (1, 0))))
# From each room by 0 to the next one, by 1 back to room 0; the last one stays.
STAIRS = (2, ((False, (1, 0)), (False, (2, 0)), (True, (2, 0))))
DUMB_GOOD = (0, ((True, ()),))
DUMB_BAD = (0, ((False, ()), (True, ())))


def ways_by_trying(machine):
    """No first run to a room has as many letters as there are rooms."""
    found = {}
    for run in runs_in_order(machine[0], len(machine[1]) - 1):
        room = 0
        for letter in run:
            room = machine[1][room][1][letter]
        found.setdefault(room, run)
    return tuple(found.items())


class RoomBehind(unittest.TestCase):
    def test_letter_by_letter(self):
        self.assertEqual(room_behind(STAIRS, 0, (0,)), 1)
        self.assertEqual(room_behind(STAIRS, 0, (0, 0)), 2)
        self.assertEqual(room_behind(STAIRS, 0, (0, 0, 0)), 2)
        self.assertEqual(room_behind(STAIRS, 0, (0, 1)), 0)
        self.assertEqual(room_behind(STAIRS, 0, (1, 0)), 1)

    def test_the_empty_run_stays(self):
        for room in range(3):
            self.assertEqual(room_behind(STAIRS, room, ()), room)

    def test_from_another_room(self):
        self.assertEqual(room_behind(STAIRS, 1, (0,)), 2)
        self.assertEqual(room_behind(STAIRS, 2, (1,)), 0)
        self.assertEqual(room_behind(STAIRS, 2, (0, 1, 0)), 1)
        self.assertEqual(room_behind(EVEN, 1, (1, 1, 1)), 0)

    def test_a_machine_of_no_letters(self):
        self.assertEqual(room_behind(DUMB_BAD, 0, ()), 0)
        self.assertEqual(room_behind(DUMB_BAD, 1, ()), 1)

    def test_two_hundred_letters(self):
        self.assertEqual(room_behind(EVEN, 0, (1,) * 200), 0)
        self.assertEqual(room_behind(EVEN, 0, (1,) * 199 + (0,)), 1)
        self.assertEqual(room_behind(STAIRS, 0, (0, 1) * 100), 0)

    def test_a_run_in_two_parts(self):
        for machine in machines_drawn(11, 100):
            for run in runs_in_order(machine[0], 3):
                for cut in range(len(run) + 1):
                    there = room_behind(machine, 0, run[:cut])
                    self.assertEqual(room_behind(machine, there, run[cut:]), room_behind(machine, 0, run))


class LetsBy(unittest.TestCase):
    def test_truths(self):
        self.assertIs(lets_by(EVEN, ()), True)
        self.assertIs(lets_by(EVEN, (1,)), False)
        self.assertIs(lets_by(STAIRS, ()), False)
        self.assertIs(lets_by(STAIRS, (0, 0)), True)
        self.assertIs(lets_by(STAIRS, (0, 0, 1)), False)

    def test_a_machine_of_no_letters(self):
        self.assertIs(lets_by(DUMB_GOOD, ()), True)
        self.assertIs(lets_by(DUMB_BAD, ()), False)

    def test_two_hundred_letters(self):
        self.assertIs(lets_by(EVEN, (1,) * 200), True)
        self.assertIs(lets_by(EVEN, (1,) * 199), False)
        self.assertIs(lets_by(EVEN, (0, 1) * 100), True)

    def test_eight_letters_and_twelve_rooms(self):
        rooms = tuple((room == 11, tuple((room + letter) % 12 for letter in range(8))) for room in range(12))
        self.assertIs(lets_by((8, rooms), (7, 4)), True)
        self.assertIs(lets_by((8, rooms), (7, 5)), False)

    def test_all_short_runs(self):
        for run in runs_in_order(2, 8):
            self.assertIs(lets_by(EVEN, run), sum(run) % 2 == 0)
            self.assertIs(lets_by(STAIRS, run), run[-2:] == (0, 0))


class Ways(unittest.TestCase):
    def test_room_0_with_the_empty_run_first(self):
        self.assertEqual(ways(DUMB_GOOD), ((0, ()),))
        for machine in machines_drawn(12, 50):
            self.assertEqual(ways(machine)[0], (0, ()))

    def test_rooms_that_no_run_reaches_are_not_told(self):
        self.assertEqual(ways(DUMB_BAD), ((0, ()),))
        alone = (1, ((True, (0,)), (True, (0,)), (True, (1,))))
        self.assertEqual(ways(alone), ((0, ()),))
        some = (2, ((True, (2, 0)), (True, (0, 3)), (True, (2, 0)), (False, (1, 1))))
        self.assertEqual(ways(some), ((0, ()), (2, (0,))))

    def test_the_first_run_by_letters(self):
        machine = (3, ((True, (0, 1, 1)), (True, (1, 1, 1))))
        self.assertEqual(ways(machine), ((0, ()), (1, (1,))))

    def test_a_shorter_run_comes_before_lesser_letters(self):
        machine = (2, ((True, (1, 2)), (True, (2, 2)), (True, (0, 0))))
        self.assertEqual(ways(machine), ((0, ()), (1, (0,)), (2, (1,))))

    def test_in_the_order_of_the_ways_not_of_the_rooms(self):
        machine = (2, ((True, (3, 2)), (True, (1, 1)), (True, (1, 0)), (True, (4, 0)), (True, (4, 4))))
        self.assertEqual(ways(machine), ((0, ()), (3, (0,)), (2, (1,)), (4, (0, 0)), (1, (1, 0))))

    def test_a_long_way(self):
        rooms = tuple((False, (min(room + 1, 149),)) for room in range(150))
        told = ways((1, rooms))
        self.assertEqual(told, tuple((room, (0,) * room) for room in range(150)))

    def test_held_against_all_runs(self):
        for machine in machines_drawn(13, 300):
            told = ways(machine)
            self.assertEqual(told, ways_by_trying(machine), machine)
            order = [(len(run), run) for room, run in told]
            self.assertEqual(order, sorted(order))
            for room, run in told:
                self.assertEqual(room_behind(machine, 0, run), room)


if __name__ == "__main__":
    unittest.main()
