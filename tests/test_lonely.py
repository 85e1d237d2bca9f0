"""Point 19: lonely beginnings."""

import itertools
import random
import unittest

from logloom.beginnings import apart, beginnings
from logloom.errors import TooGreat
from logloom.lonely import lonely
from logloom.reading import read_off
from trying import a_machine, is_let_by, runs_drawn

FIFTHS = ((), (0,) * 5), tuple((0,) * length for length in range(1, 5)) + tuple((0,) * more for more in range(6, 9))


def first_by_trying(good, bad, size):
    for chosen in itertools.combinations(beginnings(good, bad), size):
        if all(apart(good, bad, one, other) is not None for one, other in itertools.combinations(chosen, 2)):
            return chosen
    return None


class Lonely(unittest.TestCase):
    def test_none_of_them(self):
        for good, bad in (((), ()), (((0,),), ()), FIFTHS):
            self.assertEqual(lonely(good, bad, 0), ())

    def test_one_of_them(self):
        for good, bad in (((), ()), (((0,),), ()), FIFTHS):
            self.assertEqual(lonely(good, bad, 1), ((),))

    def test_two_of_them(self):
        self.assertEqual(lonely(((0,),), ((1,),), 2), ((0,), (1,)))
        self.assertEqual(lonely(((),), ((1,),), 2), ((), (1,)))

    def test_none_such(self):
        for size in range(1, 6):
            self.assertEqual(lonely((), (), size), ((),) if size == 1 else None)
            self.assertEqual(lonely(((0, 0),), (), size), ((),) if size == 1 else None)
        self.assertIsNone(lonely(((0,),), ((1,),), 3))

    def test_sizes_up_to_five(self):
        good, bad = FIFTHS
        for size in range(6):
            self.assertEqual(lonely(good, bad, size), tuple((0,) * length for length in range(size)))

    def test_the_first_ones(self):
        # () is apart from (1,) alone, by (1,); (0,) and (1,) are apart, too, but come later.
        good, bad = ((0,), (1, 1)), ((1,),)
        self.assertEqual(lonely(good, bad, 2), ((), (1,)))

    def test_the_first_one_is_passed_over_where_need_be(self):
        good, bad = ((0, 2), (1, 3)), ((1, 2), (0, 3), (4, 2))
        self.assertEqual(lonely(good, bad, 2), ((0,), (1,)))

    def test_the_second_one_is_passed_over_where_need_be(self):
        chance = random.Random(71)
        passed = 0
        for turn in range(200):
            good, bad = runs_drawn(chance, 2, 8, 4)
            two, three = lonely(good, bad, 2), lonely(good, bad, 3)
            passed += three is not None and two != three[:2]
        self.assertGreater(passed, 5)

    def test_held_against_all_choices(self):
        chance = random.Random(72)
        found = {}
        for turn in range(150):
            many = chance.randint(1, 2)
            good, bad = runs_drawn(chance, many, 7, 4)
            if len(beginnings(good, bad)) > 14:
                continue
            for size in range(6):
                told = lonely(good, bad, size)
                self.assertEqual(told, first_by_trying(good, bad, size), (good, bad, size))
                found[size, told is None] = found.get((size, told is None), 0) + 1
        for size in (2, 3, 4):
            self.assertGreater(min(found[size, True], found[size, False]), 0, found)
        self.assertGreater(found[5, True], 0)

    def test_no_machine_of_fewer_rooms(self):
        # So many rooms are needed as there are lonely ones.
        chance = random.Random(73)
        for turn in range(100):
            teacher = a_machine(chance, 2, 4)
            runs = {tuple(chance.randrange(2) for letter in range(chance.randint(0, 5))) for run in range(16)}
            good = tuple(run for run in sorted(runs) if is_let_by(teacher, run))[:12]
            bad = tuple(run for run in sorted(runs) if not is_let_by(teacher, run))[:12]
            for size in range(1, 5):
                if lonely(good, bad, size) is not None:
                    self.assertGreaterEqual(len(read_off(2, good, bad, 4)[1]), size)
                    if size > 1:
                        with self.assertRaises(TooGreat):
                            read_off(2, good, bad, size - 1)
            self.assertIsNone(lonely(good, bad, 5))

    def test_as_many_runs_as_may_be(self):
        chance = random.Random(74)
        runs = list({tuple(chance.randrange(2) for letter in range(8)) for run in range(40)})
        good, bad = tuple(runs[:12]), tuple(runs[12:24])
        told = lonely(good, bad, 3)
        self.assertEqual(len(told), 3)
        for one, other in itertools.combinations(told, 2):
            self.assertIsNotNone(apart(good, bad, one, other))


if __name__ == "__main__":
    unittest.main()
