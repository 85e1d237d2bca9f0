"""Point 13: the least machine."""

import itertools
import random
import unittest

from logloom.least import least
from logloom.machines import ways
from logloom.parting import machines_part, rooms_part
from trying import (
    all_machines, doubled, is_let_by, least_machine_by_trying, machines_drawn, runs_in_order, shuffled,
)

STAIRS = (2, ((False, (1, 0)), (False, (2, 0)), (True, (2, 0))))


class Least(unittest.TestCase):
    def test_rooms_that_no_run_reaches_are_left_out(self):
        machine = (1, ((False, (2,)), (True, (0,)), (True, (2,)), (False, (1,))))
        self.assertEqual(least(machine), (1, ((False, (1,)), (True, (1,)))))

    def test_rooms_that_no_run_parts_are_one(self):
        machine = (2, ((False, (1, 2)), (True, (3, 0)), (True, (3, 0)), (False, (2, 1))))
        self.assertEqual(least(machine), (2, ((False, (1, 1)), (True, (0, 0)))))

    def test_in_the_order_of_the_ways(self):
        machine = (2, ((False, (2, 3)), (True, (1, 1)), (False, (2, 1)), (True, (0, 3))))
        self.assertEqual(least(machine), (2, ((False, (1, 2)), (False, (1, 3)), (True, (0, 2)), (True, (3, 3)))))

    def test_a_room_with_the_way_of_its_twin(self):
        # Rooms 1 and 3 are one; of both 1 is met last, so the others are not numbered by it.
        machine = (2, ((False, (3, 2)), (True, (1, 1)), (False, (2, 1)), (True, (3, 1))))
        self.assertEqual(least(machine), (2, ((False, (1, 2)), (True, (1, 1)), (False, (2, 1)))))

    def test_a_least_one_is_itself(self):
        self.assertEqual(least(STAIRS), STAIRS)
        for machine in machines_drawn(31, 300):
            told = least(machine)
            self.assertEqual(least(told), told)

    def test_no_letters(self):
        self.assertEqual(least((0, ((True, ()), (False, ())))), (0, ((True, ()),)))
        self.assertEqual(least((0, ((False, ()), (True, ()), (False, ())))), (0, ((False, ()),)))

    def test_what_lets_by_nothing_or_all(self):
        rooms = ((1, 2), (2, 0), (0, 0))
        self.assertEqual(least((2, tuple((False, nexts) for nexts in rooms))), (2, ((False, (0, 0)),)))
        self.assertEqual(least((2, tuple((True, nexts) for nexts in rooms))), (2, ((True, (0, 0)),)))
        self.assertEqual(least((1, ((False, (0,)), (True, (0,))))), (1, ((False, (0,)),)))

    def test_eight_letters_and_twelve_rooms(self):
        rooms = tuple((room % 6 == 5, tuple((room + letter) % 12 for letter in range(8))) for room in range(12))
        halved = tuple((room == 5, tuple((room + letter) % 6 for letter in range(8))) for room in range(6))
        self.assertEqual(least((8, rooms)), (8, halved))

    def test_many_rooms(self):
        ring = (1, tuple((room == 0, ((room + 1) % 150,)) for room in range(150)))
        self.assertEqual(least(ring), ring)
        self.assertEqual(least(doubled(random.Random(5), (1, ring[1]))), ring)

    def test_equal_where_the_same_runs_are_let_by(self):
        chance = random.Random(32)
        for machine in machines_drawn(33, 200):
            told = least(machine)
            self.assertEqual(least(shuffled(chance, machine)), told)
            self.assertEqual(least(doubled(chance, machine)), told)
            self.assertEqual(least(shuffled(chance, doubled(chance, machine))), told)

    def test_unlike_where_other_runs_are_let_by(self):
        machines = list(all_machines(1, 2)) + list(all_machines(1, 1))
        for one, other in itertools.combinations(machines, 2):
            self.assertEqual(least(one) == least(other), machines_part(one, other) is None)

    def test_each_room_is_reached_and_each_two_part(self):
        for machine in machines_drawn(34, 200):
            told = least(machine)
            self.assertEqual([room for room, way in ways(told)], list(range(len(told[1]))))
            for one, other in itertools.combinations(range(len(told[1])), 2):
                self.assertIsNotNone(rooms_part(told, one, other))

    def test_no_machine_of_fewer_rooms_does(self):
        fewer = {many: list(all_machines(many, 1)) + list(all_machines(many, 2)) for many in (1, 2)}
        for machine in machines_drawn(35, 60, most_letters=2, most_rooms=3):
            told = least(machine)
            runs = list(runs_in_order(machine[0], 5))
            truths = [is_let_by(machine, run) for run in runs]
            self.assertEqual([is_let_by(told, run) for run in runs], truths)
            for other in fewer.get(machine[0], ()):
                if len(other[1]) < len(told[1]):
                    self.assertNotEqual([is_let_by(other, run) for run in runs], truths)

    def test_held_against_all_runs(self):
        for machine in machines_drawn(36, 200, most_letters=2, most_rooms=5):
            self.assertEqual(least(machine), least_machine_by_trying(machine), machine)


if __name__ == "__main__":
    unittest.main()
