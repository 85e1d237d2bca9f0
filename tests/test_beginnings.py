"""Point 17, of beginnings; point 19, of runs by which they are apart."""

import itertools
import random
import unittest

from logloom.beginnings import apart, beginnings
from trying import runs_drawn, runs_in_order


def beginnings_by_trying(good, bad, many, longest):
    runs = good + bad
    return tuple(head for head in runs_in_order(many, longest)
                 if head == () or any(run[:len(head)] == head for run in runs))


def apart_by_trying(good, bad, one, other, many, longest):
    for tail in runs_in_order(many, longest):
        if (one + tail in good and other + tail in bad) or (other + tail in good and one + tail in bad):
            return tail
    return None


class Beginnings(unittest.TestCase):
    def test_no_runs(self):
        self.assertEqual(beginnings((), ()), ((),))

    def test_the_empty_run_alone(self):
        self.assertEqual(beginnings(((),), ()), ((),))
        self.assertEqual(beginnings((), ((),)), ((),))

    def test_each_run_itself_and_what_is_ahead_in_it(self):
        self.assertEqual(beginnings(((2, 0, 1),), ()), ((), (2,), (2, 0), (2, 0, 1)))
        self.assertEqual(beginnings((), ((1, 1),)), ((), (1,), (1, 1)))

    def test_runs_handed_in_twice(self):
        self.assertEqual(beginnings(((0, 1), (0, 1)), ((1,), (1,))), ((), (0,), (1,), (0, 1)))

    def test_a_run_that_is_a_beginning_of_another(self):
        self.assertEqual(beginnings(((0, 1),), ((0,), (0, 1, 2))), ((), (0,), (0, 1), (0, 1, 2)))

    def test_the_shorter_first_then_the_lesser(self):
        told = beginnings(((5,), (0, 7, 0)), ((4, 1), (0, 2)))
        self.assertEqual(told, ((), (0,), (4,), (5,), (0, 2), (0, 7), (4, 1), (0, 7, 0)))

    def test_as_many_runs_as_may_be(self):
        good = tuple((run,) * 8 for run in range(8)) + tuple((0, run) + (1,) * 6 for run in range(1, 5))
        bad = tuple((7, run) + (0,) * 6 for run in range(6)) + tuple((6, run) + (0,) * 6 for run in range(6))
        self.assertEqual(len(beginnings(good, bad)), 1 + 8 * 8 + 4 * 7 + 12 * 7)

    def test_held_against_all_runs(self):
        chance = random.Random(61)
        for turn in range(150):
            good, bad = runs_drawn(chance, 3, 5, 4)
            self.assertEqual(beginnings(good, bad), beginnings_by_trying(good, bad, 3, 4))


class Apart(unittest.TestCase):
    def test_the_first_of_several(self):
        good, bad = ((0, 1, 1), (0, 0), (0, 2)), ((1, 1, 1), (1, 2), (1, 0))
        self.assertEqual(apart(good, bad, (0,), (1,)), (0,))
        self.assertEqual(apart(good[:1] + good[2:], bad, (0,), (1,)), (2,))
        self.assertEqual(apart(good[:1], bad, (0,), (1,)), (1, 1))

    def test_the_empty_run(self):
        self.assertEqual(apart(((0,),), ((1,),), (0,), (1,)), ())
        self.assertEqual(apart(((),), ((1, 1),), (), (1, 1)), ())

    def test_none(self):
        self.assertIsNone(apart(((0,), (1,)), (), (0,), (1,)))
        self.assertIsNone(apart(((0, 0),), ((1, 1),), (0,), (1,)))
        self.assertIsNone(apart((), (), (), ()))

    def test_both_good_or_both_bad_does_not_part(self):
        self.assertIsNone(apart(((0, 2), (1, 2)), (), (0,), (1,)))
        self.assertIsNone(apart((), ((0, 2), (1, 2)), (0,), (1,)))

    def test_a_beginning_with_itself(self):
        good, bad = ((0, 1), (1,)), ((0, 0), (1, 1))
        for one in beginnings(good, bad):
            self.assertIsNone(apart(good, bad, one, one))

    def test_beginnings_of_unlike_lengths(self):
        self.assertEqual(apart(((0, 0, 0),), ((0,),), (), (0, 0)), (0,))
        self.assertEqual(apart(((0,),), ((0, 0, 0),), (), (0, 0)), (0,))

    def test_turned_about(self):
        # By (1,) the first is good, by (0,) the second: the lesser is told either way.
        good, bad = ((0, 1), (1, 0)), ((1, 1), (0, 0))
        self.assertEqual(apart(good, bad, (0,), (1,)), (0,))
        self.assertEqual(apart(good, bad, (1,), (0,)), (0,))

    def test_held_against_all_runs(self):
        chance = random.Random(62)
        found = {True: 0, False: 0}
        for turn in range(100):
            good, bad = runs_drawn(chance, 2, 6, 4)
            for one, other in itertools.product(beginnings(good, bad), repeat=2):
                told = apart(good, bad, one, other)
                self.assertEqual(told, apart_by_trying(good, bad, one, other, 2, 4), (good, bad, one, other))
                found[told is None] += 1
        self.assertGreater(min(found.values()), 100)


if __name__ == "__main__":
    unittest.main()
