"""Point 7: forms shown and read."""

import itertools
import unittest

from logloom.errors import LoomError, NoForm
from logloom.showing import read_form, shown_form

SORTS = ("number", "name", "list", "mark")


class Showing(unittest.TestCase):
    def test_the_form_of_the_document(self):
        form = (("word", "open"), ("gap", "name"), ("word", "[]"), ("gap", "list"))
        self.assertEqual(shown_form(form), "open <name> [] <list>")
        self.assertEqual(read_form("open <name> [] <list>"), form)

    def test_each_sort(self):
        for sort in SORTS:
            self.assertEqual(shown_form((("gap", sort),)), f"<{sort}>")
            self.assertEqual(read_form(f"<{sort}>"), (("gap", sort),))

    def test_a_word_called_like_a_sort_is_no_gap(self):
        for sort in SORTS:
            self.assertEqual(shown_form((("word", sort),)), sort)
            self.assertEqual(read_form(sort), (("word", sort),))

    def test_a_form_shown_and_read_is_the_form(self):
        parts = [("gap", sort) for sort in SORTS] + [("word", word) for word in ("0", "gap", "[a,1]", "007", "[]")]
        for length in (1, 2, 3):
            for form in itertools.product(parts, repeat=length):
                self.assertEqual(read_form(shown_form(form)), form)

    def test_a_text_read_and_shown_is_the_text(self):
        for text in ("a", "<mark>", "a <number> [] 00 <list> <list> x=1 <name>"):
            self.assertEqual(shown_form(read_form(text)), text)


class Refused(unittest.TestCase):
    def refused(self, text, at):
        with self.assertRaises(NoForm, msg=repr(text)) as caught:
            read_form(text)
        self.assertIs(type(caught.exception), NoForm)
        self.assertIsInstance(caught.exception, LoomError)
        self.assertEqual(caught.exception.at, at, repr(text))

    def test_gaps_that_are_none(self):
        for piece in (
                "<Name>", "<NAME>", "<Number>", "<LIST>", "<none>", "<word>", "<gap>", "<row>", "<>", "<a>", "<name",
                "name>", "<<name>>", "<name>>", "<<name>", "<name>x", "x<name>", "<name><name>", "<na me>", "<name>\n",
                "\t<name>", "[<name>]", "<items>"):
            self.refused(piece, 0)

    def test_the_empty_text_and_empty_pieces(self):
        self.refused("", 0)
        self.refused(" ", 0)
        self.refused(" a", 0)
        self.refused("a ", 1)
        self.refused("a  <name>", 1)
        self.refused("<name> <list> ", 2)

    def test_the_first_of_two(self):
        self.refused("a <b> <c>", 1)
        self.refused("<name> a ! <B>", 2)

    def test_lengths(self):
        for many in range(1, 9):
            self.assertEqual(len(read_form(" ".join(["<name>"] * many))), many)
            self.assertEqual(len(read_form(" ".join(["a"] * many))), many)
        for many in range(9, 14):
            self.refused(" ".join(["<name>"] * many), 8)
            self.refused(" ".join(["a"] * many), 8)

    def test_no_part_in_a_long_text(self):
        self.refused("a b <c> d e f g h i j", 2)
        self.refused("a b c d e f g <H> i j", 7)
        self.refused("a b c d e f g h <I> j", 8)
        self.refused("a b c d e f g h i <J>", 9)
        self.refused("<name> b c d e f g h i j ", 10)


if __name__ == "__main__":
    unittest.main()
