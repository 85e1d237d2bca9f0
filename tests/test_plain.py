"""Point 2: answers are of whole numbers, texts, None, truths and tuples; what is handed in stays as it is."""

import copy
import unittest

from logloom.errors import NoFit, NoGap, NoRow
from logloom.forms import gaps_of, writes, written
from logloom.rows import words_of
from logloom.sorts import Items, Mark, Name, Number, Sort, sort_of
from plain import is_plain

FORM = (("word", "open"), ("gap", "name"), ("word", "[]"), ("gap", "list"))
ROW = ("open", "file", "[]", "[a,1]")

CALLS = [
    (sort_of, ("a",)), (sort_of, ("",)), (words_of, ("open file [] [a,1]",)),
    (writes, (FORM, ROW)), (gaps_of, (FORM, ROW)), (written, (FORM, ("file", "[a,1]"))),
]
REFUSED = [
    (words_of, ("a  b",)), (gaps_of, (FORM, ROW[:2])), (written, (FORM, ("file",))),
]


class Plain(unittest.TestCase):
    def test_what_is_told_is_plain(self):
        for function, handed in CALLS:
            told = function(*handed)
            self.assertTrue(is_plain(told), (function.__name__, told))

    def test_sorts_tell_plain_values(self):
        for sort in (Sort(), Number(), Name(), Items(), Mark()):
            self.assertIs(type(sort.word()), str)
            self.assertIs(type(sort.takes("a")), bool)

    def test_what_is_handed_in_is_not_changed(self):
        for function, handed in CALLS:
            before = copy.deepcopy(handed)
            function(*handed)
            self.assertEqual(handed, before, function.__name__)

    def test_the_same_is_told_again(self):
        for function, handed in CALLS:
            self.assertEqual(function(*handed), function(*handed), function.__name__)

    def test_the_fields_of_refusals_are_whole_numbers(self):
        for function, handed in REFUSED:
            with self.assertRaises((NoRow, NoFit, NoGap)) as caught:
                function(*handed)
            self.assertIs(type(caught.exception.at), int, function.__name__)


if __name__ == "__main__":
    unittest.main()
