"""Point 6: forms, the rows they write, and the gaps."""

import itertools
import unittest

from logloom.errors import NoFit, NoGap
from logloom.forms import gaps_of, writes, written
from logloom.rows import words_of

FORM = (("word", "open"), ("gap", "name"), ("word", "[]"), ("gap", "list"))
ROW = ("open", "file", "[]", "[a,1]")
EACH_SORT = (("gap", "number"), ("gap", "name"), ("gap", "list"), ("gap", "mark"))
SAMPLES = {"number": "12", "name": "ab", "list": "[ab,12]", "mark": "007"}


class Writes(unittest.TestCase):
    def test_a_row_as_long(self):
        self.assertIs(writes(FORM, ROW), True)
        self.assertIs(writes(FORM, ("open", "z9", "[]", "[]")), True)

    def test_another_word(self):
        self.assertIs(writes(FORM, ("shut", "file", "[]", "[a,1]")), False)
        self.assertIs(writes(FORM, ("open", "file", "[a]", "[a,1]")), False)

    def test_a_word_of_another_sort(self):
        self.assertIs(writes(FORM, ("open", "12", "[]", "[a,1]")), False)
        self.assertIs(writes(FORM, ("open", "file", "[]", "a")), False)

    def test_shorter_and_longer_rows(self):
        self.assertIs(writes(FORM, ROW[:3]), False)
        self.assertIs(writes(FORM, ROW[:1]), False)
        self.assertIs(writes(FORM, ROW + ("a",)), False)
        self.assertIs(writes((("gap", "name"),), ("a", "b")), False)

    def test_a_gap_takes_words_of_its_sort_alone(self):
        for gap in SAMPLES:
            for sort, word in SAMPLES.items():
                self.assertIs(writes((("gap", gap),), (word,)), gap == sort, (gap, word))

    def test_one_part_and_eight(self):
        self.assertIs(writes((("word", "a"),), ("a",)), True)
        self.assertIs(writes((("gap", "name"),) * 8, ("a",) * 8), True)
        self.assertIs(writes((("gap", "name"),) * 8, ("a",) * 7 + ("0",)), False)


class GapsOf(unittest.TestCase):
    def refused(self, form, row, at):
        with self.assertRaises(NoFit) as caught:
            gaps_of(form, row)
        self.assertIs(type(caught.exception), NoFit)
        self.assertEqual(caught.exception.at, at)

    def test_the_words_at_the_gaps_from_the_left(self):
        self.assertEqual(gaps_of(FORM, ROW), ("file", "[a,1]"))
        self.assertEqual(gaps_of(EACH_SORT, ("1", "a", "[]", "A")), ("1", "a", "[]", "A"))

    def test_no_gaps(self):
        self.assertEqual(gaps_of((("word", "a"), ("word", "1")), ("a", "1")), ())

    def test_a_part_that_does_not_take_its_word(self):
        self.refused(FORM, ("shut", "file", "[]", "[a,1]"), 0)
        self.refused(FORM, ("open", "1", "[]", "[a,1]"), 1)
        self.refused(FORM, ("open", "file", "x", "[a,1]"), 2)
        self.refused(FORM, ("open", "file", "[]", "x"), 3)

    def test_of_two_such_parts_the_first(self):
        self.refused(FORM, ("open", "1", "x", "x"), 1)

    def test_where_only_the_lengths_are_unlike(self):
        self.refused(FORM, ROW[:1], 1)
        self.refused(FORM, ROW[:3], 3)
        self.refused(FORM, ROW + ("a",), 4)
        self.refused(FORM, ROW + ("a", "b", "c"), 4)

    def test_where_both_are_so(self):
        self.refused(FORM, ("open", "1"), 1)
        self.refused(FORM, ("shut", "file", "[]"), 0)
        self.refused(FORM, ("open", "file", "[]", "x", "a", "b"), 3)


class Written(unittest.TestCase):
    def refused(self, form, gaps, at):
        with self.assertRaises(NoGap) as caught:
            written(form, gaps)
        self.assertIs(type(caught.exception), NoGap)
        self.assertEqual(caught.exception.at, at)

    def test_just_the_gaps(self):
        self.assertEqual(written(FORM, ("file", "[a,1]")), "open file [] [a,1]")
        self.assertEqual(written((("word", "a"),), ()), "a")
        self.assertEqual(written(EACH_SORT, ("1", "a", "[]", "A")), "1 a [] A")

    def test_too_few(self):
        self.refused(FORM, (), 0)
        self.refused(FORM, ("file",), 1)
        self.refused(EACH_SORT, ("1", "a", "[]"), 3)

    def test_too_many(self):
        self.refused(FORM, ("file", "[]", "x"), 2)
        self.refused(FORM, ("file", "[]", "x", "", "y"), 2)
        self.refused((("word", "a"),), ("a",), 0)

    def test_a_text_of_another_sort(self):
        self.refused(FORM, ("1", "[]"), 0)
        self.refused(FORM, ("file", "x"), 1)
        self.refused(FORM, ("1", "x"), 0)

    def test_a_text_that_is_no_word(self):
        self.refused(FORM, ("", "[]"), 0)
        self.refused(FORM, ("file", "[a"), 1)
        self.refused(FORM, ("a b", "[]"), 0)
        self.refused(FORM, ("file\n", "[]"), 0)

    def test_a_wrong_text_counts_ahead_of_the_lengths(self):
        self.refused(FORM, ("1",), 0)
        self.refused(FORM, ("file", "x", "y"), 1)
        self.refused(EACH_SORT, ("1", "1"), 1)

    def test_numbers_count_gaps_not_parts(self):
        form = (("word", "a"), ("word", "b"), ("gap", "number"), ("word", "c"), ("gap", "name"))
        self.refused(form, ("1", "2"), 1)
        self.refused(form, ("1",), 1)


class Together(unittest.TestCase):
    def test_form_and_gaps_tell_the_row_again(self):
        words = tuple(SAMPLES.values()) + ("b",)
        parts = tuple(("word", word) for word in words) + EACH_SORT
        for form in itertools.product(parts, repeat=3):
            for row in itertools.product(words, repeat=3):
                if writes(form, row):
                    text = written(form, gaps_of(form, row))
                    self.assertEqual(text, " ".join(row))
                    self.assertEqual(words_of(text), row)
                else:
                    self.assertRaises(NoFit, gaps_of, form, row)

    def test_what_is_written_has_the_gaps_again(self):
        for sorts in itertools.product(SAMPLES, repeat=3):
            form = (("word", "say"),) + tuple(("gap", sort) for sort in sorts)
            gaps = tuple(SAMPLES[sort] for sort in sorts)
            self.assertEqual(gaps_of(form, words_of(written(form, gaps))), gaps)


if __name__ == "__main__":
    unittest.main()
