"""Points 15 and 16: machines learnt by asking, and what is refused; point 3, of these."""

import random
import unittest

from logloom.errors import LoomError, NoParting, TooGreat
from logloom.learning import learnt
from logloom.least import least
from logloom.parting import machines_part
from trying import a_machine, is_let_by, machines_drawn

# An even number of ones; two noughts at the end.
EVEN = (2, ((True, (0, 1)), (False, (1, 0))))
STAIRS = (2, ((False, (1, 0)), (False, (2, 0)), (True, (2, 0))))


def ring(size):
    return 1, tuple((room == 0, ((room + 1) % size,)) for room in range(size))


class Teacher:
    """Writes down what it is asked and what it tells, and holds each machine that it is handed against point 15."""

    def __init__(self, case, truth, tell, most):
        self.case, self.truth, self.tell, self.most = case, truth, tell, most
        self.runs, self.truths, self.handed, self.told = [], {}, [], []

    def may(self, run):
        self.case.assertIs(type(run), tuple)
        self.runs.append(run)
        self.truths[run] = self.truth(run)
        return self.truths[run]

    def parting(self, machine):
        case = self.case
        case.assertEqual(least(machine), machine)
        for run, truth in self.truths.items():
            case.assertIs(is_let_by(machine, run), truth, (machine, run))
        case.assertLessEqual(len(machine[1]), self.most)
        if self.handed:
            case.assertGreater(len(machine[1]), len(self.handed[-1][1]))
        self.handed.append(machine)
        self.told.append(self.tell(machine))
        return self.told[-1]

    def hold_told(self, many, told):
        """What learnt told, held against point 15."""
        case = self.case
        case.assertIs(type(told), tuple)
        machine, asked = told
        case.assertEqual(machine, self.handed[-1])
        case.assertIsNone(self.told[-1])
        case.assertNotIn(None, self.told[:-1])
        case.assertEqual(len(self.runs), len(set(self.runs)))
        case.assertIs(type(asked), int)
        case.assertEqual(asked, len(set(self.runs)))
        letters = sum(len(run) for run in self.told[:-1])
        case.assertLessEqual(asked, len(machine[1]) * (many + 1) * (1 + letters))


def longer_parting(chance, machine, longest):
    """Tells some run that parts, mostly not the first one, of no more letters than longest."""
    def tell(other):
        first = machines_part(machine, other)
        if first is None:
            return None
        for turn in range(30):
            begun = first if chance.random() < 0.5 else ()
            more = chance.randint(0, longest - len(begun))
            run = begun + tuple(chance.randrange(machine[0]) for letter in range(more))
            if is_let_by(machine, run) != is_let_by(other, run):
                return run
        return first
    return tell


class Learnt(unittest.TestCase):
    def held(self, machine, tell, most):
        teacher = Teacher(self, lambda run: is_let_by(machine, run), tell, most)
        told = learnt(machine[0], teacher.may, teacher.parting, most)
        teacher.hold_told(machine[0], told)
        self.assertEqual(told[0], least(machine))
        return told

    def first(self, machine):
        return lambda other: machines_part(machine, other)

    def test_machines_known_by_name(self):
        for machine in (EVEN, STAIRS, ring(1), ring(5)):
            self.held(machine, self.first(machine), 6)

    def test_one_to_eight_rooms_by_first_runs(self):
        sizes = set()
        for machine in machines_drawn(51, 300, most_letters=4, most_rooms=8):
            told = self.held(machine, self.first(machine), 8)
            sizes.add(len(told[0][1]))
        self.assertEqual(sizes, set(range(1, 9)))

    def test_just_as_many_rooms_as_may_be(self):
        for machine in machines_drawn(52, 100, most_rooms=8):
            self.held(machine, self.first(machine), len(least(machine)[1]))

    def test_longer_runs(self):
        chance = random.Random(53)
        longest = 0
        for machine in machines_drawn(54, 150, most_rooms=8):
            tell = longer_parting(chance, machine, 40)
            told = []
            self.held(machine, lambda other: told.append(tell(other)) or told[-1], 8)
            longest = max([longest] + [len(run) for run in told if run is not None])
        self.assertGreater(longest, 30)

    def test_letters_behind_that_are_not_needed(self):
        # Behind the third letter nothing matters.
        machine = (2, ((False, (1, 4)), (False, (4, 2)), (False, (3, 4)), (True, (3, 3)), (False, (4, 4))))
        told = self.held(machine, lambda other: None if machines_part(machine, other) is None else (0, 1, 0) + (1, 0) * 18, 6)
        self.assertEqual(told[0], least(machine))

    def test_eight_letters_and_eight_rooms(self):
        chance = random.Random(55)
        for turn in range(3):
            machine = a_machine(chance, 8, 8)
            self.held(machine, self.first(machine), 8)
            self.held(machine, longer_parting(chance, machine, 40), 8)

    def test_no_letters(self):
        for good in (True, False):
            self.assertEqual(self.held((0, ((good, ()),)), lambda other: None, 1), ((0, ((good, ()),)), 1))

    def test_one_room(self):
        self.assertEqual(self.held((2, ((True, (0, 0)),)), lambda other: None, 1), ((2, ((True, (0, 0)),)), 3))

    def test_most_left_out(self):
        for size in (5, 6):
            machine = ring(size)
            told = learnt(1, lambda run: is_let_by(machine, run), self.first(machine))
            self.assertEqual(told[0], machine)
        machine = ring(7)
        with self.assertRaises(TooGreat) as caught:
            learnt(1, lambda run: is_let_by(machine, run), self.first(machine))
        self.assertEqual(caught.exception.number, 6)
        told = learnt(1, lambda run: is_let_by(machine, run), self.first(machine), most=7)
        self.assertEqual(told[0], machine)

    def test_the_same_is_learnt_again(self):
        one = learnt(2, lambda run: is_let_by(STAIRS, run), self.first(STAIRS))
        self.assertEqual(learnt(2, lambda run: is_let_by(STAIRS, run), self.first(STAIRS)), one)


class Refused(unittest.TestCase):
    def refusal(self, kind, many, may, parting, most):
        with self.assertRaises(LoomError) as caught:
            learnt(many, may, parting, most)
        self.assertIs(type(caught.exception), kind)
        return caught.exception

    def test_a_run_that_does_not_part(self):
        for run in ((), (0,), (1, 1), (0, 1, 0, 1)):
            told = self.refusal(NoParting, 2, lambda run: True, lambda machine: run, 3)
            self.assertEqual(told.run, run)

    def test_a_run_that_does_not_part_any_more(self):
        may = lambda run: is_let_by(STAIRS, run)
        told = self.refusal(NoParting, 2, may, lambda machine: (0, 0), 6)
        self.assertEqual(told.run, (0, 0))

    def test_no_letters(self):
        told = self.refusal(NoParting, 0, lambda run: False, lambda machine: (), 3)
        self.assertEqual(told.run, ())

    def test_more_rooms_are_needed(self):
        for size in range(2, 9):
            machine = ring(size)
            for most in range(1, size):
                told = self.refusal(
                    TooGreat, 1, lambda run: is_let_by(machine, run), lambda other: machines_part(machine, other), most)
                self.assertEqual(told.number, most)
                self.assertIs(type(told.number), int)

    def test_more_rooms_are_needed_ahead_of_any_machine(self):
        told = self.refusal(TooGreat, 2, lambda run: run == (), lambda machine: self.fail("nothing to hand"), 1)
        self.assertEqual(told.number, 1)

    def test_more_rooms_are_needed_by_drawn_machines(self):
        refused = 0
        for machine in machines_drawn(56, 150, most_rooms=8):
            size = len(least(machine)[1])
            if size > 1:
                refused += 1
                told = self.refusal(TooGreat, machine[0], lambda run: is_let_by(machine, run),
                                    lambda other: machines_part(machine, other), size - 1)
                self.assertEqual(told.number, size - 1)
        self.assertGreater(refused, 50)

    def test_where_both_would_hold(self):
        # Two noughts need three rooms. The machine of one room is handed, and (1, 1) does not part it from the teacher.
        may = lambda run: is_let_by(STAIRS, run)
        handed = []
        told = self.refusal(NoParting, 2, may, lambda machine: handed.append(machine) or (1, 1), 1)
        self.assertEqual(told.run, (1, 1))
        self.assertEqual(handed, [(2, ((False, (0, 0)),))])
        # (0, 0) parts it, so that there the rooms are too many.
        told = self.refusal(TooGreat, 2, may, lambda machine: (0, 0), 1)
        self.assertEqual(told.number, 1)
        # Likewise where a machine of as many rooms as may be was handed, though five are needed.
        told = self.refusal(NoParting, 1, lambda run: len(run) % 5 == 0, lambda machine: (0,) * 4, 2)
        self.assertEqual(told.run, (0,) * 4)
        told = self.refusal(TooGreat, 1, lambda run: len(run) % 5 == 0, lambda machine: (0,) * 5, 2)
        self.assertEqual(told.number, 2)


class WhateverIsTold(unittest.TestCase):
    """Functions that tell any truths and runs: learning ends, and keeps to point 15 all the way."""

    def ended(self, many, truth, tell, most):
        teacher = Teacher(self, truth, tell, most)
        try:
            told = learnt(many, teacher.may, teacher.parting, most)
        except NoParting as refusal:
            self.assertEqual(refusal.run, teacher.told[-1])
            self.assertIs(teacher.truth(refusal.run), is_let_by(teacher.handed[-1], refusal.run))
            return "parting"
        except TooGreat as refusal:
            self.assertEqual(refusal.number, most)
            if teacher.told:
                run = teacher.told[-1]
                self.assertIsNotNone(run)
                self.assertIsNot(truth(run), is_let_by(teacher.handed[-1], run))
            return "great"
        teacher.hold_told(many, told)
        return "told"

    def test_any_truths_and_runs(self):
        chance = random.Random(57)
        ends = {"parting": 0, "great": 0, "told": 0}
        for turn in range(600):
            many, most, odds = chance.randint(0, 4), chance.randint(1, 8), chance.choice((2, 3, 5, 40))
            truth = lambda run: random.Random(f"{turn} {run}").randrange(odds) == 0

            def tell(machine):
                if chance.randrange(6) == 0:
                    return None
                letters = chance.randrange(8) if many else 0
                return tuple(chance.randrange(many) for letter in range(letters))

            ends[self.ended(many, truth, tell, most)] += 1
        self.assertGreater(min(ends.values()), 20, ends)

    def test_teachers_that_stand_for_no_machine_of_so_few_rooms(self):
        # As many noughts as ones: no machine does that.
        chance = random.Random(58)
        balanced = lambda run: run.count(0) == run.count(1)

        def tell(machine):
            while True:
                run = tuple(chance.randrange(2) for letter in range(chance.randrange(41)))
                if balanced(run) != is_let_by(machine, run):
                    return run

        for most in range(1, 9):
            for turn in range(5):
                self.assertEqual(self.ended(2, balanced, tell, most), "great")

    def test_parting_gives_up_early(self):
        # Runs of so many noughts as a square number has.
        square = lambda run: len(run) in (0, 1, 4, 9, 16, 25, 36)
        self.assertEqual(self.ended(1, square, lambda machine: None, 8), "told")

    def test_truths_that_never_settle(self):
        # Only one run, ever longer, is good: each machine needs more rooms.
        for most in range(1, 9):
            good = (0,) * 40
            self.assertEqual(self.ended(1, lambda run: run == good, lambda machine: good, most), "great")


if __name__ == "__main__":
    unittest.main()
