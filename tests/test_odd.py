"""Points 24 and 25, and 3 of them: odd stretches, and the first shortest one of a run."""

import itertools
import random
import unittest

from logloom.machines import lets_by
from logloom.odd import is_odd, odd
from trying import (
    all_machines, is_let_by, is_odd_by_rooms, is_plain, machines_drawn, runs_in_order, stretches_let_by,
)

TRUTHS = list(itertools.product((False, True), repeat=2))
# Lets by the runs 0 1 1 .. 1 2, with one 1 at least.
GATE = (3, (
    (False, (1, 4, 4)), (False, (4, 2, 4)), (False, (4, 2, 3)), (True, (4, 4, 4)), (False, (4, 4, 4)),
))
NOTHING = (2, ((False, (1, 0)), (False, (0, 1)), (True, (0, 1))))
EVERYTHING = (2, ((True, (1, 0)), (True, (0, 1))))


def own_stretches(run):
    """Its stretches as (start, stop, head, tail), in the order in which the first odd one is looked for."""
    found = []
    for start, stop in itertools.combinations_with_replacement(range(len(run) + 1), 2):
        for head, tail in TRUTHS:
            if (start == 0 or not head) and (stop == len(run) or not tail):
                found.append((start, stop, head, tail))
    return sorted(found, key=lambda told: (told[1] - told[0] + told[2] + told[3], told[0], not told[2]))


def first_odd(run, asked):
    for start, stop, head, tail in own_stretches(run):
        if asked(run[start:stop], head, tail):
            return start, stop, head, tail
    return None


class IsOdd(unittest.TestCase):
    def test_each_pair_of_truths(self):
        for run, truths in (
                ((0, 1, 2), ()), ((0, 1), ((False, True), (True, True))), ((1, 2), ((True, False), (True, True))),
                ((1, 1), ((True, False), (False, True), (True, True))), ((1, 0), TRUTHS), ((2, 2), TRUTHS),
                ((0, 2), TRUTHS), ((2,), ((True, False), (True, True))), ((0,), ((False, True), (True, True)))):
            for head, tail in TRUTHS:
                told = is_odd(GATE, run, head, tail)
                self.assertIs(told, (head, tail) in truths, (run, head, tail))

    def test_the_empty_run(self):
        for head, tail in TRUTHS:
            self.assertIs(is_odd(GATE, (), head, tail), head and tail)
            self.assertIs(is_odd(EVERYTHING, (), head, tail), False)
            self.assertIs(is_odd(NOTHING, (), head, tail), True)

    def test_a_machine_that_lets_nothing_by(self):
        for run in runs_in_order(2, 4):
            for head, tail in TRUTHS:
                self.assertIs(is_odd(NOTHING, run, head, tail), True)

    def test_a_machine_that_lets_everything_by(self):
        for run in runs_in_order(2, 4):
            for head, tail in TRUTHS:
                self.assertIs(is_odd(EVERYTHING, run, head, tail), False)

    def test_a_machine_that_lets_by_the_empty_run_alone(self):
        machine = (1, ((True, (1,)), (False, (1,))))
        for head, tail in TRUTHS:
            self.assertIs(is_odd(machine, (), head, tail), False)
            self.assertIs(is_odd(machine, (0,), head, tail), True)

    def test_held_against_all_runs(self):
        machines = list(all_machines(1, 2)) + list(all_machines(1, 3)) + list(all_machines(2, 2))
        machines += list(machines_drawn(121, 60, 2, 3))
        found = {True: 0, False: 0}
        for machine in machines:
            had = stretches_let_by(machine, 3)
            for run in runs_in_order(machine[0], 3):
                for head, tail in TRUTHS:
                    told = is_odd(machine, run, head, tail)
                    self.assertIs(told, (run, head, tail) not in had, (machine, run, head, tail))
                    found[told] += 1
        self.assertGreater(min(found.values()), 500)


class OddStretch(unittest.TestCase):
    def test_of_a_run_let_by_it_is_none(self):
        self.assertIsNone(odd(GATE, (0, 1, 2)))
        self.assertIsNone(odd(GATE, (0,) + (1,) * 198 + (2,)))
        for run in runs_in_order(2, 4):
            self.assertIsNone(odd(EVERYTHING, run))

    def test_within_the_run(self):
        self.assertEqual(odd(GATE, (0, 1, 0, 1, 2)), (1, 3, False, False))
        self.assertEqual(odd(GATE, (0, 1, 1, 2, 2)), (3, 5, False, False))
        self.assertEqual(odd(GATE, (0, 0, 2, 2)), (0, 2, False, False))

    def test_at_the_beginning_and_at_the_end(self):
        self.assertEqual(odd(GATE, (1, 1, 2)), (0, 1, True, False))
        self.assertEqual(odd(GATE, (0, 1, 1)), (2, 3, False, True))
        self.assertEqual(odd(GATE, (1, 1, 1)), (0, 1, True, False))

    def test_the_one_with_head_first(self):
        # Nothing comes behind 2, and nothing begins with it: two stretches of size 2 have start 0.
        self.assertEqual(odd(GATE, (2, 0)), (0, 1, True, False))
        self.assertEqual(odd(GATE, (1, 0)), (0, 1, True, False))
        # A run of one letter that neither begins nor ends one let by.
        self.assertEqual(odd(GATE, (1,)), (0, 1, True, False))

    def test_the_less_size_ahead_of_the_less_start(self):
        machine = (2, ((True, (0, 1)), (False, (1, 1))))
        self.assertEqual(odd(machine, (0, 0, 1)), (2, 3, False, False))
        self.assertEqual(odd(machine, (1, 0, 1)), (0, 1, False, False))

    def test_the_whole_run_with_both_truths(self):
        ring = (1, ((True, (1,)), (False, (2,)), (False, (0,))))
        self.assertEqual(odd(ring, (0,)), (0, 1, True, True))
        self.assertEqual(odd(ring, (0,) * 200), (0, 200, True, True))
        self.assertIsNone(odd(ring, (0,) * 198))

    def test_runs_of_no_letters(self):
        self.assertEqual(odd(GATE, ()), (0, 0, True, True))
        self.assertEqual(odd(NOTHING, ()), (0, 0, False, False))
        self.assertEqual(odd((0, ((False, ()),)), ()), (0, 0, False, False))
        self.assertIsNone(odd((0, ((True, ()),)), ()))

    def test_a_machine_that_lets_nothing_by(self):
        for run in runs_in_order(2, 4):
            self.assertEqual(odd(NOTHING, run), (0, 0, False, False))

    def test_what_is_told_is_a_plain_tuple(self):
        for run in runs_in_order(3, 4):
            told = odd(GATE, run)
            if told is not None:
                self.assertIs(type(told), tuple)
                self.assertEqual([type(part) for part in told], [int, int, bool, bool])
            self.assertTrue(is_plain(told))
            self.assertEqual(odd(GATE, run), told)

    def test_head_only_with_start_0_and_tail_only_with_the_runs_end(self):
        seen = set()
        for machine in [GATE] + list(machines_drawn(122, 300, 3, 5)):
            for run in runs_in_order(machine[0], 4):
                told = odd(machine, run)
                self.assertEqual(told is None, is_let_by(machine, run))
                if told is not None:
                    start, stop, head, tail = told
                    self.assertTrue(0 <= start <= stop <= len(run))
                    self.assertTrue(start == 0 or not head)
                    self.assertTrue(stop == len(run) or not tail)
                    seen.add((head, tail))
        self.assertEqual(len(seen), 4)


class HeldAgainstAllStretches(unittest.TestCase):
    def test_small_machines_by_all_runs(self):
        machines = list(all_machines(1, 2)) + list(all_machines(2, 2)) + list(machines_drawn(123, 40, 2, 3))
        for machine in machines:
            had = stretches_let_by(machine, 4)
            for run in runs_in_order(machine[0], 4):
                told = first_odd(run, lambda letters, head, tail: (letters, head, tail) not in had)
                self.assertEqual(odd(machine, run), told, (machine, run))

    def test_greater_machines_by_their_rooms(self):
        chance = random.Random(124)
        seen = set()
        for machine in machines_drawn(125, 400, 4, 9):
            for turn in range(3):
                run = tuple(chance.randrange(machine[0]) for letter in range(chance.randint(0, 9) if machine[0] else 0))
                told = first_odd(run, lambda letters, head, tail: is_odd_by_rooms(machine, letters, head, tail))
                self.assertEqual(odd(machine, run), told, (machine, run))
                if told is not None:
                    seen.add(told[2:])
        self.assertEqual(len(seen), 4)

    def test_long_runs(self):
        chance = random.Random(126)
        # The second one lets by all but runs with three noughts, one behind the other.
        for machine in (GATE, (2, ((True, (1, 0)), (True, (2, 0)), (True, (3, 0)), (False, (3, 3))))):
            for turn in range(2):
                run = [0] * 60
                for place in range(1, 60):
                    run[place] = 1 if chance.random() < 0.8 else run[place]
                run = tuple(run)
                told = first_odd(run, lambda letters, head, tail: is_odd_by_rooms(machine, letters, head, tail))
                self.assertEqual(odd(machine, run), told, (machine, run))

    def test_long_runs_whose_odd_stretch_is_long(self):
        for size, many in ((7, 200), (12, 199), (150, 200)):
            ring = (2, tuple((room == 0, ((room + 1) % size, room)) for room in range(size)))
            self.assertEqual(odd(ring, (0,) * many), (0, many, True, True))
            self.assertEqual(odd(ring, (0, 1) * (many // 2)), (0, many // 2 * 2, True, True))

    def test_an_odd_letter_deep_within(self):
        machine = (2, ((True, (0, 1)), (False, (1, 1))))
        for place in (0, 1, 57, 198, 199):
            run = (0,) * place + (1,) + (0,) * (199 - place)
            self.assertEqual(odd(machine, run), (place, place + 1, False, False))

    def test_what_is_told_is_odd_and_each_shorter_one_is_not(self):
        for machine in machines_drawn(127, 150, 3, 5):
            for run in runs_in_order(machine[0], 4):
                told = odd(machine, run)
                if told is None:
                    continue
                self.assertTrue(is_odd(machine, run[told[0]:told[1]], told[2], told[3]))
                size = told[1] - told[0] + told[2] + told[3]
                for start, stop, head, tail in own_stretches(run):
                    if stop - start + head + tail < size:
                        self.assertFalse(is_odd(machine, run[start:stop], head, tail))

    def test_none_just_where_it_is_let_by(self):
        for machine in machines_drawn(128, 150, 3, 6):
            for run in runs_in_order(machine[0], 4):
                self.assertEqual(odd(machine, run) is None, lets_by(machine, run))


if __name__ == "__main__":
    unittest.main()
