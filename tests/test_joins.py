"""Points 8 and 9: the least form of some rows, and the rows that are unlike."""

import random
import unittest

from logloom.forms import writes
from logloom.joins import least_form, unlike
from trying import forms_that_write_all, least_by_trying, some_rows


class LeastForm(unittest.TestCase):
    def test_one_row(self):
        row = ("open", "1", "[]", "007")
        words = (("word", "open"), ("word", "1"), ("word", "[]"), ("word", "007"))
        self.assertEqual(least_form((row,)), words)

    def test_rows_alike(self):
        self.assertEqual(least_form((("a", "1"),) * 3), (("word", "a"), ("word", "1")))
        self.assertEqual(least_form((("a",),) * 40), (("word", "a"),))

    def test_words_unlike_of_one_sort(self):
        rows = (("a", "1", "[]", "A"), ("a", "2", "[b]", "B"))
        self.assertEqual(least_form(rows), (("word", "a"), ("gap", "number"), ("gap", "list"), ("gap", "mark")))
        self.assertEqual(least_form((("a",), ("b",))), (("gap", "name"),))

    def test_one_row_of_many_makes_the_gap(self):
        for place in range(4):
            rows = [("a", "b")] * 4
            rows[place] = ("a", "c")
            self.assertEqual(least_form(tuple(rows)), (("word", "a"), ("gap", "name")))

    def test_unlike_sorts_at_a_place(self):
        self.assertIsNone(least_form((("a", "1"), ("a", "b"))))
        self.assertIsNone(least_form((("0",), ("00",))))
        self.assertIsNone(least_form((("a",), ("b",), ("c",), ("[]",))))
        self.assertIsNone(least_form((("a", "1"), ("b", "2"), ("A", "3"))))

    def test_unlike_lengths(self):
        self.assertIsNone(least_form((("a",), ("a", "b"))))
        self.assertIsNone(least_form((("a", "b"), ("a",))))
        self.assertIsNone(least_form((("a", "b"), ("a", "b"), ("a", "b", "c"))))

    def test_eight_words_and_forty_rows(self):
        rows = tuple(("a",) * 7 + (str(number),) for number in range(40))
        self.assertEqual(least_form(rows), (("word", "a"),) * 7 + (("gap", "number"),))

    def test_any_form_that_writes_them_all_has_its_gaps(self):
        chance = random.Random(8)
        for turn in range(300):
            rows = some_rows(chance, chance.randint(1, 4), chance.randint(1, 4), ("a", "b", "1", "2"))
            least = least_form(rows)
            self.assertEqual(least, least_by_trying(rows))
            if least is None:
                continue
            self.assertTrue(all(writes(least, row) for row in rows))
            for form in forms_that_write_all(rows, 8):
                for part, other in zip(least, form):
                    self.assertTrue(part[0] == "word" or part == other, (rows, form))


class Unlike(unittest.TestCase):
    def test_no_rows(self):
        self.assertEqual(unlike(()), ())

    def test_as_they_first_come(self):
        a, b, c = ("a",), ("b", "1"), ("c",)
        self.assertEqual(unlike((b, a, b, c, a, b)), (b, a, c))
        self.assertEqual(unlike((a, a)), (a,))

    def test_no_number_of_them_is_refused(self):
        rows = tuple((str(number),) for number in range(40))
        self.assertEqual(unlike(rows), rows)
        self.assertEqual(unlike(rows + rows[::-1]), rows)

    def test_rows_alike_only_in_their_beginning_are_unlike(self):
        rows = (("a",), ("a", "b"), ("a", "b", "c"))
        self.assertEqual(unlike(rows), rows)


if __name__ == "__main__":
    unittest.main()
