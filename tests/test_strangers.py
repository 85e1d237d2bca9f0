"""Point 10: strangers."""

import itertools
import random
import unittest

from logloom.errors import TooMany
from logloom.groups import groups
from logloom.strangers import strangers
from trying import forms_that_write_all, some_rows

# Each two of these go together by two gaps, all three of them by three alone.
RING = (("a", "b", "c"), ("a", "x", "y"), ("z", "b", "y"))


def first_by_trying(rows, most, size):
    for chosen in itertools.combinations(range(len(rows)), size):
        pairs = itertools.combinations(chosen, 2)
        if not any(forms_that_write_all((rows[one], rows[other]), most) for one, other in pairs):
            return chosen
    return None


class Strangers(unittest.TestCase):
    def test_no_rows(self):
        for most in range(9):
            self.assertEqual(strangers((), most), ())

    def test_one_row(self):
        self.assertEqual(strangers((("a",),), 0), (0,))

    def test_where_all_go_together_the_first_row(self):
        self.assertEqual(strangers((("a",), ("b",), ("c",)), 1), (0,))

    def test_rows_of_two_groups(self):
        rows = (("open", "a"), ("open", "b"), ("shut", "1"), ("shut", "2"))
        self.assertEqual(strangers(rows, 1), (0, 2))

    def test_all_rows_where_none_go_together(self):
        rows = (("a",), ("1",), ("A",), ("[]",), ("a", "a"))
        self.assertEqual(strangers(rows, 8), (0, 1, 2, 3, 4))
        self.assertEqual(strangers((("a",), ("b",)), 0), (0, 1))

    def test_rows_handed_in_twice_are_numbered_once(self):
        rows = (("a",), ("a",), ("b",), ("a",), ("1",), ("1",))
        self.assertEqual(strangers(rows, 1), (0, 2))

    def test_the_first_row_is_passed_over_where_need_be(self):
        rows = (("a", "b"), ("a", "c"), ("d", "b"))
        self.assertEqual(groups(rows, 1), ((0, 1), (2,)))
        self.assertEqual(strangers(rows, 1), (1, 2))

    def test_none(self):
        self.assertEqual(len(groups(RING, 2)), 2)
        self.assertIsNone(strangers(RING, 2))
        self.assertIsNone(strangers(RING + RING, 2))

    def test_two_gaps_where_nothing_is_said(self):
        self.assertIsNone(strangers(RING))
        self.assertEqual(strangers(RING[:2]), (0,))
        self.assertEqual(strangers(RING, most=3), (0,))
        self.assertEqual(strangers(RING, most=1), (0, 1, 2))

    def test_too_many(self):
        rows = tuple((str(number),) for number in range(11))
        self.assertEqual(strangers(rows[:8], 1), (0,))
        self.assertEqual(strangers(rows[:8], 0), (0, 1, 2, 3, 4, 5, 6, 7))
        for many in (9, 11):
            with self.assertRaises(TooMany) as caught:
                strangers(rows[:many], 1)
            self.assertIs(type(caught.exception), TooMany)
            self.assertEqual(caught.exception.number, many)

    def test_held_against_all_choices(self):
        chance = random.Random(10)
        none = 0
        for turn in range(400):
            words = chance.choice((("a", "b"), ("a", "b", "c"), ("a", "b", "1", "2")))
            rows = some_rows(chance, chance.randint(1, 8), chance.randint(1, 4), words)
            most = chance.randint(0, 4)
            told = strangers(rows, most)
            self.assertEqual(told, first_by_trying(rows, most, len(groups(rows, most))), (rows, most))
            none += told is None
        self.assertGreater(none, 0)


if __name__ == "__main__":
    unittest.main()
