"""Point 4: the four sorts of words."""

import itertools
import re
import unittest

from logloom.sorts import Items, Mark, Name, Number, Sort, sort_of

NUMBERS = ["0", "1", "9", "10", "42", "100", "123456789", "999999999", "900000000"]
NAMES = ["a", "z", "a0", "open", "abc123", "x9y8z7", "abcdefghijkl", "a12345678901", "none", "list"]
LISTS = [
    "[]", "[0]", "[a]", "[0,a]", "[a,b,c]", "[1,2,3,4]", "[a,1,b,2]",
    "[123456789,abcdefghijkl,0,z9]", "[abcdefghijkl,abcdefghijkl,abcdefghijkl,abcdefghijkl]",
]
MARKS = [
    "00", "01", "007", "0123456789", "1234567890", "123456789012", "000000000000",
    "A", "Z", "aB", "openFile", "Name", "1a", "0x1f", "9z", "A1", ".", ":", "-", "_", "/", "=",
    "a.b", "-1", "1.5", "k=v", "/tmp/x", "a_b", "12:30:00", "ABCDEFGHIJKL", "abcdefghijkL", "............",
]
NO_WORDS = [
    "", " ", "\t", "\n", "a b", " a", "a ", "a\n", "\na", "a\t", "0\n", "0 ", "\t1", "[]\n", "[] ", "[a]\t", "A\n", "A\tB",
    "A b", ".\n", "1234567890123", "0000000000000", "abcdefghijklm", "ABCDEFGHIJKLM", ".............",
    "[", "]", "][", "[a", "a]", "[a,b", "a,b", "[,]", "[a,]", "[,a]", "[a,,b]", "[ ]", "[a, b]", "[a ,b]", "[a\n]",
    "[1,2,3,4,5]", "[a,b,c,d,e]", "[,,,]", "[A]", "[a.b]", "[-1]", "[=]", "[00]", "[01]", "[a,007]", "[1234567890]",
    "[abcdefghijklm]", "[[]]", "[[a]]", "[[],a]", "[a]b", "b[a]", "[a][b]", "[]]", "[[]", "[a],[b]",
    "<name>", "<", ">", "a,b", ",", "a+b", "!", "a!", "~", "@", "{", "`", "a;b", "\"a\"", "'", "#1", "50%", "(a)", "a*",
]
ALL = NUMBERS + NAMES + LISTS + MARKS + NO_WORDS

# The words of point 4, written once more in another way, to hold the program against.
NUMBER_LIKE = r"(?:0|[1-9][0-9]{0,8})"
NAME_LIKE = r"(?:[a-z][a-z0-9]{0,11})"
ITEM_LIKE = f"(?:{NUMBER_LIKE}|{NAME_LIKE})"
LIST_LIKE = rf"\[(?:{ITEM_LIKE}(?:,{ITEM_LIKE}){{0,3}})?\]"
MARK_LIKE = r"[a-zA-Z0-9.:\-_/=]{1,12}"


def sort_by_pattern(text):
    for word, like in (("number", NUMBER_LIKE), ("name", NAME_LIKE), ("list", LIST_LIKE), ("mark", MARK_LIKE)):
        if re.fullmatch(like, text):
            return word
    return None


class SortOf(unittest.TestCase):
    def check(self, texts, sort):
        for text in texts:
            self.assertEqual(sort_of(text), sort, repr(text))

    def test_numbers(self):
        self.check(NUMBERS, "number")

    def test_names(self):
        self.check(NAMES, "name")

    def test_lists(self):
        self.check(LISTS, "list")

    def test_marks(self):
        self.check(MARKS, "mark")

    def test_no_words(self):
        for text in NO_WORDS:
            self.assertIsNone(sort_of(text), repr(text))

    def test_nought_by_itself_is_a_number_and_ahead_makes_a_mark(self):
        self.assertEqual([sort_of(t) for t in ("0", "00", "01")], ["number", "mark", "mark"])

    def test_lengths_of_figures(self):
        for length in range(1, 16):
            sort = "number" if length <= 9 else "mark" if length <= 12 else None
            self.assertEqual(sort_of("1" * length), sort, length)

    def test_lengths_of_names(self):
        for length in range(1, 16):
            self.assertEqual(sort_of("a" * length), "name" if length <= 12 else None, length)

    def test_lengths_of_marks(self):
        for length in range(1, 16):
            self.assertEqual(sort_of("-" * length), "mark" if length <= 12 else None, length)
            self.assertEqual(sort_of("0" + "7" * length), "mark" if length <= 11 else None, length)

    def test_numbers_of_items(self):
        for many in range(0, 8):
            text = "[" + ",".join(["a"] * many) + "]"
            self.assertEqual(sort_of(text), "list" if many <= 4 else None, text)

    def test_every_sign_alone_and_within(self):
        signs = ["\t", "\n"] + [chr(number) for number in range(32, 127)]
        for sign in signs:
            for text in (sign, "a" + sign, sign + "a", "1" + sign, sign + "1", "A" + sign, "[" + sign + "]", "[]" + sign):
                self.assertEqual(sort_of(text), sort_by_pattern(text), repr(text))

    def test_all_short_texts_of_some_signs(self):
        for length in range(0, 6):
            for signs in itertools.product("0a1[],B ", repeat=length):
                text = "".join(signs)
                self.assertEqual(sort_of(text), sort_by_pattern(text), repr(text))


class Classes(unittest.TestCase):
    def test_their_words(self):
        words = [sort.word() for sort in (Sort(), Number(), Name(), Items(), Mark())]
        self.assertEqual(words, ["none", "number", "name", "list", "mark"])

    def test_each_stands_under_sort(self):
        for sort in (Number, Name, Items, Mark):
            self.assertEqual(sort.__bases__, (Sort,))

    def test_a_sort_itself_takes_nothing(self):
        for text in ALL:
            self.assertIs(Sort().takes(text), False, repr(text))

    def test_takes_tells_a_truth_and_just_one_takes_each_word(self):
        for text in ALL:
            takers = []
            for sort in (Number(), Name(), Items(), Mark()):
                taken = sort.takes(text)
                self.assertIn(taken, (True, False))
                self.assertIsInstance(taken, bool, repr(text))
                if taken:
                    takers.append(sort.word())
            told = sort_of(text)
            self.assertEqual(takers, [] if told is None else [told], repr(text))

    def test_each_takes_its_own(self):
        for sort, texts in ((Number(), NUMBERS), (Name(), NAMES), (Items(), LISTS), (Mark(), MARKS)):
            for text in ALL:
                self.assertIs(sort.takes(text), text in texts, (sort.word(), text))


if __name__ == "__main__":
    unittest.main()
