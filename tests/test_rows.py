"""Point 5: rows, told by texts."""

import unittest

from logloom.errors import LoomError, NoRow
from logloom.rows import words_of


class WordsOf(unittest.TestCase):
    def refused(self, text, at):
        with self.assertRaises(NoRow, msg=repr(text)) as caught:
            words_of(text)
        self.assertEqual(caught.exception.at, at, repr(text))
        self.assertIs(type(caught.exception), NoRow)
        self.assertIs(type(caught.exception.at), int)
        self.assertIsInstance(caught.exception, LoomError)

    def test_rows(self):
        self.assertEqual(words_of("a"), ("a",))
        self.assertEqual(words_of("open file [a,1] 007"), ("open", "file", "[a,1]", "007"))
        self.assertEqual(words_of("a a a"), ("a", "a", "a"))

    def test_one_to_eight_words(self):
        for many in range(1, 9):
            row = words_of(" ".join(["a"] * many))
            self.assertEqual(row, ("a",) * many)
            self.assertIs(type(row), tuple)

    def test_nine_words_and_more(self):
        for many in range(9, 20):
            self.refused(" ".join(["a"] * many), 8)

    def test_the_empty_text(self):
        self.refused("", 0)

    def test_blanks_at_the_beginning_and_the_end(self):
        self.refused(" ", 0)
        self.refused(" a", 0)
        self.refused("a ", 1)
        self.refused("a b c ", 3)
        self.refused("a b c d e f g h ", 8)

    def test_two_blanks_in_a_row(self):
        self.refused("a  b", 1)
        self.refused("a b  c", 2)
        self.refused("  ", 0)

    def test_a_piece_that_is_no_word(self):
        self.refused("a <b> c", 1)
        self.refused("a b c d e f g ?", 7)
        self.refused("abcdefghijklm", 0)

    def test_of_two_pieces_that_are_no_words_the_first(self):
        self.refused("a ! b ?", 1)
        self.refused("! ?", 0)

    def test_tabs_and_line_feeds_part_nothing(self):
        self.refused("a\tb", 0)
        self.refused("a b\n", 1)
        self.refused("a\nb c", 0)
        self.refused("\t", 0)

    def test_no_word_ahead_of_number_eight_in_a_long_text(self):
        self.refused("a b ! d e f g h i j", 2)
        self.refused("a b c d e f g ! i j", 7)

    def test_no_word_at_number_eight_and_behind_it(self):
        self.refused("a b c d e f g h !", 8)
        self.refused("a b c d e f g h i !", 9)
        self.refused("a b c d e f g h i j k !", 11)
        self.refused("a b c d e f g h i ", 9)


if __name__ == "__main__":
    unittest.main()
