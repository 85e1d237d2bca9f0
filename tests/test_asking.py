"""Point 21: questions told by texts, and where a text tells none."""

import random
import unittest

from logloom.asking import question_of
from logloom.errors import LoomError, NoQuestion
from logloom.questions import Ahead, Behind, Both, Either, Not, Question, Row, Times, With
from logloom.sorts import sort_of
from speaking import length, log_by_chance, looks, said_by_chance, spoken, told_rows

PARTS = {
    "row": "F", "with": "FIW", "behind": "FIFIK", "ahead": "FIFIK", "times": "KKT", "both": "QQ", "either": "QQ", "not": "Q",
}
NUMBERS = {"F": [str(n) for n in range(9)], "I": [str(n) for n in range(8)], "K": [str(n) for n in range(1, 21)]}


def takes(kind, piece):
    if kind == "W":
        return sort_of(piece) is not None
    return piece in NUMBERS[kind]


def refused_at(text):
    """What is still to come stands in left, T being a question within a times; None where the text tells a question."""
    pieces = text.split(" ")
    left = ["Q"]
    for at, piece in enumerate(pieces):
        if at == 40 or not left:
            return at
        kind = left.pop(0)
        if kind in "QT":
            if piece not in PARTS or (kind == "T" and piece == "times"):
                return at
            parts = list(PARTS[piece])
            left = [part if kind == "Q" or part != "Q" else "T" for part in parts] + left
        elif not takes(kind, piece):
            return at
    return len(pieces) if left else None


class Told(unittest.TestCase):
    def assertTold(self, text, kind, back, on):
        question = question_of(text)
        self.assertIs(type(question), kind)
        self.assertIsInstance(question, Question)
        self.assertEqual((question.back(), question.on()), (back, on))
        return question

    def test_each_kind(self):
        log = ((3, ("a", "b")), (4, ("b", "a")), (3, ("b", "a")))
        self.assertEqual(self.assertTold("row 3", Row, 0, 0).found(log, 2), (2,))
        self.assertEqual(self.assertTold("with 4 1 a", With, 0, 0).found(log, 1), (1,))
        self.assertEqual(self.assertTold("behind 3 0 4 1 7", Behind, 0, 7).found(log, 0), (0, 1))
        self.assertEqual(self.assertTold("ahead 3 1 4 1 9", Ahead, 9, 0).found(log, 2), (1, 2))
        self.assertEqual(self.assertTold("times 4 2 row 3", Times, 3, 0).found(log, 2), (0, 2))
        self.assertEqual(self.assertTold("both row 3 with 3 0 b", Both, 0, 0).found(log, 2), (2,))
        self.assertEqual(self.assertTold("either row 4 row 3", Either, 0, 0).found(log, 2), (2,))
        self.assertEqual(self.assertTold("not row 4", Not, 0, 0).found(log, 2), ())

    def test_the_order_of_the_parts(self):
        log = ((1, ("a", "b", "c")), (2, ("d", "c", "e")), (2, ("b", "d", "c")))
        self.assertEqual(question_of("behind 1 2 2 1 2").found(log, 0), (0, 1))
        self.assertEqual(question_of("behind 1 2 2 2 2").found(log, 0), (0, 2))
        self.assertIsNone(question_of("behind 1 2 2 2 1").found(log, 0))
        self.assertEqual(question_of("ahead 2 0 1 1 2").found(log, 2), (0, 2))
        self.assertEqual(question_of("times 3 1 row 2").back(), 2)
        self.assertEqual(question_of("times 1 3 row 2").back(), 0)
        self.assertEqual(question_of("either behind 1 2 2 1 2 row 1").found(log, 0), (0, 1))
        self.assertEqual(question_of("either row 1 behind 1 2 2 1 2").found(log, 0), (0,))

    def test_a_word_of_each_sort(self):
        for word in ("a1", "0", "123456789", "[]", "[a,1,b,2]", "A", "00", "a.b:c-d_e/f=", "row", "times"):
            question = question_of("with 8 7 " + word)
            log = ((8, ("x",) * 7 + (word,)), (8, ("x",) * 8))
            self.assertEqual(question.found(log, 0), (0,))
            self.assertIsNone(question.found(log, 1))

    def test_the_bounds_of_the_figures(self):
        for text in ("row 0", "row 8", "with 0 0 a", "with 8 7 a", "behind 0 0 8 7 1", "behind 8 7 0 0 20",
                     "ahead 0 0 8 7 20", "ahead 8 7 0 0 1", "times 1 1 row 0", "times 20 20 row 0", "times 1 20 row 0"):
            self.assertIsInstance(question_of(text), Question, text)

    def test_questions_within_questions(self):
        question = self.assertTold("times 3 2 both not row 1 either ahead 0 0 0 0 5 behind 0 0 0 0 4", Times, 7, 4)
        log = ((0, ("a",)), (1, ()), (0, ("a",)))
        self.assertEqual(question.found(log, 2), (0, 2))

    def test_two_times_side_by_side(self):
        self.assertTold("both times 3 1 row 0 times 5 1 row 1", Both, 4, 0)
        self.assertTold("either not times 3 1 row 0 times 5 1 row 1", Either, 4, 0)

    def test_forty_words(self):
        self.assertTold("not " * 38 + "row 0", Not, 0, 0)
        text = "both " * 6 + "row 1 " * 6 + "not " * 20 + "row 1"
        self.assertEqual(len(text.split(" ")), 40)
        self.assertEqual(question_of(text).found(((1, ()),), 0), (0,))

    def test_held_against_the_document(self):
        chance = random.Random(91)
        tried = 0
        while tried < 400:
            said = said_by_chance(chance, 4)
            if length(said) > 40:
                continue
            tried += 1
            question, log = question_of(spoken(said)), log_by_chance(chance, 10)
            self.assertEqual((question.back(), question.on()), looks(said))
            for n in range(len(log)):
                self.assertEqual(question.found(log, n), told_rows(said, log, n), (spoken(said), log, n))


class Refused(unittest.TestCase):
    def assertRefused(self, text, at):
        with self.assertRaises(LoomError) as caught:
            question_of(text)
        self.assertIs(type(caught.exception), NoQuestion)
        self.assertEqual(caught.exception.at, at, text)
        self.assertEqual(refused_at(text), at, text)

    def test_no_question_at_all(self):
        for text in ("", " ", "x", "Row 0", "rows 0", "0", "question", "\t", "row\t0", "row\n0", "row0"):
            self.assertRefused(text, 0)

    def test_empty_pieces_and_blanks_at_the_ends(self):
        self.assertRefused(" row 0", 0)
        self.assertRefused("row  0", 1)
        self.assertRefused("row 0 ", 2)
        self.assertRefused("row ", 1)
        self.assertRefused("with 0 0  a", 3)
        self.assertRefused("with 0 0 ", 3)
        self.assertRefused("row 0\n", 1)

    def test_the_pieces_end_ahead_of_the_question(self):
        self.assertRefused("row", 1)
        self.assertRefused("with 0", 2)
        self.assertRefused("with 0 0", 3)
        self.assertRefused("behind 0 0 0 0", 5)
        self.assertRefused("times 3", 2)
        self.assertRefused("times 3 2", 3)
        self.assertRefused("both row 0", 3)
        self.assertRefused("both row 0 either row 1", 6)
        self.assertRefused("not", 1)
        self.assertRefused("not " * 39 + "not", 40)
        self.assertRefused("not " * 38 + "not", 39)

    def test_letters(self):
        for wrong in ("9", "10", "00", "08", "-1", "+1", "a", "", "1.", "[1]", "123456789"):
            self.assertRefused("row " + wrong, 1)
            self.assertRefused("with " + wrong + " 0 a", 1)
            self.assertRefused("behind " + wrong + " 0 0 0 1", 1)
            self.assertRefused("behind 0 0 " + wrong + " 0 1", 3)
            self.assertRefused("ahead 0 0 " + wrong + " 0 1", 3)

    def test_gaps(self):
        for wrong in ("8", "9", "10", "00", "07", "-1", "a", ""):
            self.assertRefused("with 0 " + wrong + " a", 2)
            self.assertRefused("behind 0 " + wrong + " 0 0 1", 2)
            self.assertRefused("behind 0 0 0 " + wrong + " 1", 4)
            self.assertRefused("ahead 0 " + wrong + " 0 0 1", 2)
            self.assertRefused("ahead 0 0 0 " + wrong + " 1", 4)

    def test_counts(self):
        for wrong in ("0", "21", "01", "020", "100", "1234567890", "-1", "a", ""):
            self.assertRefused("behind 0 0 0 0 " + wrong, 5)
            self.assertRefused("ahead 0 0 0 0 " + wrong, 5)
            self.assertRefused("times " + wrong + " 1 row 0", 1)
            self.assertRefused("times 1 " + wrong + " row 0", 2)

    def test_no_word(self):
        for wrong in ("", "[", "[a", "<name>", "a" * 13, "[a,b,c,d,e]", "a,b", "a\tb", "*"):
            self.assertRefused("with 0 0 " + wrong, 3)

    def test_a_times_within_a_times(self):
        self.assertRefused("times 2 2 times 2 2 row 0", 3)
        self.assertRefused("times 2 2 not times 2 2 row 0", 4)
        self.assertRefused("times 2 2 both row 0 not times 2 2 row 0", 7)
        self.assertRefused("times 2 2 times", 3)
        self.assertRefused("both times 2 2 row 0 times 2 2 times 2 2 row 0", 9)

    def test_a_piece_behind_the_end(self):
        self.assertRefused("row 0 row 0", 2)
        self.assertRefused("row 0 0", 2)
        self.assertRefused("with 0 0 a b", 4)
        self.assertRefused("both row 0 row 0 row 0", 5)
        self.assertRefused("not row 0 " + "x " * 50, 3)

    def test_more_than_forty(self):
        self.assertRefused("not " * 39 + "row 0", 40)
        self.assertRefused("not " * 40 + "row 0", 40)
        self.assertRefused("not " * 5000 + "row 0", 40)
        self.assertRefused("not " * 38 + "row 0 row 0", 40)
        self.assertRefused("not " * 39 + "rows 0", 39)
        self.assertRefused("not " * 37 + "row 0 row 0", 39)
        self.assertRefused("not " * 38 + "row 9 row 0", 39)
        self.assertRefused("both " * 20 + "row 0 " * 21, 40)

    def test_the_first_of_several(self):
        self.assertRefused("with 9 8 *", 1)
        self.assertRefused("both row 9 row 9", 2)
        self.assertRefused("times 0 0 times 0 0", 1)

    def test_spoiled_by_chance(self):
        chance = random.Random(92)
        pieces = ["", "row", "times", "both", "not", "0", "7", "8", "9", "20", "21", "01", "a", "[", "x y"]
        refused, told = 0, 0
        for turn in range(3000):
            words = spoken(said_by_chance(chance, 5)).split(" ")
            for change in range(chance.randint(0, 2)):
                place = chance.randrange(len(words) + 1)
                words[place:place + chance.randint(0, 1)] = [chance.choice(pieces)] * chance.randint(0, 2)
            text = " ".join(words[:chance.choice((len(words), len(words), chance.randint(1, len(words) + 1)))])
            at = refused_at(text)
            if at is None:
                self.assertIsInstance(question_of(text), Question)
                told += 1
            else:
                self.assertRefused(text, at)
                refused += 1
        self.assertGreater(min(refused, told), 500)


if __name__ == "__main__":
    unittest.main()
