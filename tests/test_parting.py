"""Point 12, of the runs that part: two rooms, and two machines."""

import itertools
import random
import unittest

from logloom.parting import machines_part, rooms_part
from trying import a_machine, is_let_by, machines_drawn, runs_in_order, shuffled

# From each room by 0 to the next one, by 1 back to room 0; the last one stays.
STAIRS = (2, ((False, (1, 0)), (False, (2, 0)), (True, (2, 0))))
ALL = (2, ((True, (0, 0)),))
NOTHING = (2, ((False, (0, 0)),))
DUMB = (0, ((False, ()), (True, ()), (False, ())))


def ring(size, goods):
    """One letter, that leads round."""
    return 1, tuple((room in goods, ((room + 1) % size,)) for room in range(size))


def rooms_part_by_trying(machine, one, other):
    """Rooms that part at all part by fewer letters than there are rooms."""
    for run in runs_in_order(machine[0], len(machine[1])):
        if is_let_by(machine, run, one) != is_let_by(machine, run, other):
            return run
    return None


def machines_part_by_trying(one, other):
    for run in runs_in_order(one[0], len(one[1]) + len(other[1])):
        if is_let_by(one, run) != is_let_by(other, run):
            return run
    return None


class RoomsPart(unittest.TestCase):
    def test_one_good_room(self):
        self.assertEqual(rooms_part(STAIRS, 0, 2), ())
        self.assertEqual(rooms_part(STAIRS, 2, 1), ())

    def test_a_room_with_itself(self):
        for room in range(3):
            self.assertIsNone(rooms_part(STAIRS, room, room))

    def test_by_a_longer_run(self):
        self.assertEqual(rooms_part(STAIRS, 0, 1), (0,))
        stairs = (1, tuple((room == 11, (min(room + 1, 11),)) for room in range(12)))
        self.assertEqual(rooms_part(stairs, 0, 1), (0,) * 10)
        self.assertEqual(rooms_part(stairs, 9, 3), (0,) * 2)
        self.assertEqual(rooms_part(stairs, 10, 11), ())

    def test_rooms_that_no_run_parts(self):
        self.assertIsNone(rooms_part((1, ((True, (1,)), (True, (0,)))), 0, 1))
        twins = (2, ((False, (1, 2)), (True, (3, 0)), (True, (3, 0)), (False, (2, 1))))
        self.assertIsNone(rooms_part(twins, 1, 2))
        self.assertIsNone(rooms_part(twins, 0, 3))
        self.assertEqual(rooms_part(twins, 0, 1), ())

    def test_the_shorter_run_comes_first(self):
        # By 0, 0 they part, too, but 1 is shorter.
        machine = (2, ((False, (2, 5)), (False, (3, 4)), (False, (5, 4)), (False, (4, 4)), (False, (4, 4)), (True, (4, 4))))
        self.assertTrue(is_let_by(machine, (0, 0), 0) and not is_let_by(machine, (0, 0), 1))
        self.assertEqual(rooms_part(machine, 0, 1), (1,))

    def test_the_lesser_letter_comes_first(self):
        machine = (3, ((False, (2, 2, 3)), (False, (2, 3, 2)), (False, (2, 2, 2)), (True, (2, 2, 2))))
        self.assertEqual(rooms_part(machine, 0, 1), (1,))
        far = (3, ((False, (0, 0, 1)), (False, (2, 0, 0)), (True, (2, 2, 2)), (False, (3, 3, 4)), (False, (3, 3, 3))))
        self.assertEqual(rooms_part(far, 0, 3), (2, 0))

    def test_the_first_place_where_runs_are_unlike_counts(self):
        # 0, 1 and 1, 0 both part the first two rooms, and no shorter run does.
        machine = (2, ((False, (2, 3)), (False, (4, 4)), (False, (4, 5)), (False, (5, 4)), (False, (4, 4)), (True, (5, 5))))
        self.assertTrue(is_let_by(machine, (1, 0), 0) and not is_let_by(machine, (1, 0), 1))
        self.assertEqual(rooms_part(machine, 0, 1), (0, 1))

    def test_rooms_that_are_not_reached(self):
        machine = (1, ((True, (0,)), (True, (2,)), (False, (0,))))
        self.assertEqual(rooms_part(machine, 0, 1), (0,))

    def test_no_letters(self):
        self.assertEqual(rooms_part(DUMB, 0, 1), ())
        self.assertIsNone(rooms_part(DUMB, 0, 2))

    def test_eight_letters(self):
        nexts = (2,) * 7
        machine = (8, ((False, nexts + (1,)), (False, nexts + (3,)), (False, nexts + (2,)), (True, nexts + (3,))))
        self.assertEqual(rooms_part(machine, 0, 1), (7,))
        self.assertEqual(rooms_part(machine, 0, 2), (7, 7))

    def test_turned_about(self):
        for machine in machines_drawn(21, 100):
            for one, other in itertools.combinations(range(len(machine[1])), 2):
                self.assertEqual(rooms_part(machine, one, other), rooms_part(machine, other, one))

    def test_held_against_all_runs(self):
        for machine in machines_drawn(22, 200, most_letters=2):
            for one, other in itertools.product(range(len(machine[1])), repeat=2):
                told = rooms_part(machine, one, other)
                self.assertEqual(told, rooms_part_by_trying(machine, one, other), (machine, one, other))


class MachinesPart(unittest.TestCase):
    def test_by_the_empty_run(self):
        self.assertEqual(machines_part(ALL, NOTHING), ())

    def test_a_machine_with_itself(self):
        for machine in (STAIRS, ALL, NOTHING, DUMB):
            self.assertIsNone(machines_part(machine, machine))

    def test_machines_of_unlike_numbers_of_rooms(self):
        self.assertEqual(machines_part(STAIRS, NOTHING), (0, 0))
        self.assertEqual(machines_part(NOTHING, STAIRS), (0, 0))
        self.assertEqual(machines_part(STAIRS, ALL), ())
        self.assertIsNone(machines_part(ring(2, (0,)), ring(6, (0, 2, 4))))

    def test_only_what_is_let_by_counts(self):
        alone = (2, ((False, (0, 0)), (True, (1, 1))))
        self.assertIsNone(machines_part(alone, NOTHING))

    def test_runs_longer_than_the_rooms_of_either(self):
        self.assertEqual(machines_part(ring(3, (0, 1)), ring(4, (0, 1, 3))), (0,) * 5)
        self.assertEqual(machines_part(ring(7, (0, 1, 2, 3, 4, 6)), ring(6, (0, 1, 2, 3, 4))), (0,) * 11)
        self.assertEqual(machines_part(ring(11, (9,)), ring(12, (9,))), (0,) * 20)

    def test_no_letters(self):
        self.assertEqual(machines_part(DUMB, (0, ((True, ()),))), ())
        self.assertIsNone(machines_part(DUMB, (0, ((False, ()),))))

    def test_eight_letters(self):
        one = (8, tuple((room == 11, tuple((room + letter) % 12 for letter in range(8))) for room in range(12)))
        other = (8, tuple((False, tuple((room + letter) % 12 for letter in range(8))) for room in range(12)))
        self.assertEqual(machines_part(one, other), (4, 7))
        self.assertIsNone(machines_part(one, shuffled(random.Random(3), one)))

    def test_many_rooms(self):
        self.assertEqual(machines_part(ring(149, (148,)), ring(150, (149,))), (0,) * 148)
        self.assertIsNone(machines_part(ring(149, range(149)), ring(150, range(150))))

    def test_turned_about(self):
        for one in machines_drawn(23, 200):
            other = a_machine(random.Random(str(one)), one[0], 4)
            self.assertEqual(machines_part(one, other), machines_part(other, one))

    def test_held_against_all_runs(self):
        none = 0
        for one in machines_drawn(24, 400, most_letters=2, most_rooms=4):
            other = a_machine(random.Random(str(one)), one[0], 1 + len(str(one)) % 4)
            told = machines_part(one, other)
            self.assertEqual(told, machines_part_by_trying(one, other), (one, other))
            none += told is None
        self.assertGreater(none, 0)


if __name__ == "__main__":
    unittest.main()
