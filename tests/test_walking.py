"""Point 22: the walk of a question over a log."""

import random
import unittest

from logloom.asking import question_of
from logloom.questions import Ahead, Behind, Both, Either, Not, Question, Row, Times, With
from logloom.walking import walked
from speaking import built, length, log_by_chance, said_by_chance, spoken, told_rows
from trying import is_plain

LOG = ((0, ("a", "1")), (1, ("a",)), (0, ("b",)), (2, ()), (1, ("b", "a")), (8, ()), (0, ("a",)))


def walk_by_the_document(said, log):
    told = [(n, told_rows(said, log, n)) for n in range(len(log))]
    return tuple((n, rows) for n, rows in told if rows is not None)


class EachKind(unittest.TestCase):
    def test_row_and_with(self):
        self.assertEqual(walked(Row(0), LOG), ((0, (0,)), (2, (2,)), (6, (6,))))
        self.assertEqual(walked(Row(8), LOG), ((5, (5,)),))
        self.assertEqual(walked(With(0, 0, "a"), LOG), ((0, (0,)), (6, (6,))))

    def test_behind_and_ahead(self):
        self.assertEqual(walked(Behind(0, 0, 1, 0, 2), LOG), ((0, (0, 1)), (2, (2, 4))))
        self.assertEqual(walked(Behind(0, 0, 1, 0, 1), LOG), ((0, (0, 1)),))
        self.assertEqual(walked(Ahead(0, 0, 1, 1, 2), LOG), ((6, (4, 6)),))
        self.assertEqual(walked(Ahead(1, 0, 0, 0, 9), LOG), ((1, (0, 1)), (4, (2, 4))))

    def test_times(self):
        self.assertEqual(walked(Times(3, 2, Row(0)), LOG), ((2, (0, 2)),))
        self.assertEqual(walked(Times(20, 2, Row(0)), LOG), ((2, (0, 2)), (6, (0, 2, 6))))

    def test_both_either_and_not(self):
        self.assertEqual(walked(Both(Row(0), Behind(0, 0, 0, 0, 9)), LOG), ((0, (0, 6)),))
        self.assertEqual(walked(Either(Row(2), Row(8)), LOG), ((3, (3,)), (5, (5,))))
        self.assertEqual(walked(Not(Either(Row(0), Row(1))), LOG), ((3, ()), (5, ())))

    def test_questions_read_from_a_text(self):
        self.assertEqual(walked(question_of("times 20 2 row 0"), LOG), ((2, (0, 2)), (6, (0, 2, 6))))
        self.assertEqual(walked(question_of("not either row 0 row 1"), LOG), ((3, ()), (5, ())))
        self.assertEqual(walked(question_of("both row 0 behind 0 0 0 0 9"), LOG), ((0, (0, 6)),))


class Edges(unittest.TestCase):
    def test_an_empty_log(self):
        for question in (Row(0), Not(Row(0)), Behind(0, 0, 0, 0, 3), Times(3, 1, Row(0))):
            self.assertEqual(walked(question, ()), ())

    def test_one_that_holds_nowhere(self):
        for question in (Question(), Row(7), Times(2, 3, Row(0)), Both(Row(0), Not(Row(0)))):
            self.assertEqual(walked(question, LOG), ())

    def test_one_that_holds_everywhere(self):
        self.assertEqual(walked(Not(Row(7)), LOG), tuple((n, ()) for n in range(7)))
        told = walked(Either(Row(0), Not(Row(0))), LOG)
        self.assertEqual([n for n, rows in told], list(range(7)))
        self.assertEqual(walked(Row(0), ((0, ()),) * 200), tuple((n, (n,)) for n in range(200)))

    def test_a_log_of_one_row(self):
        self.assertEqual(walked(Row(0), ((0, ()),)), ((0, (0,)),))
        self.assertEqual(walked(Row(1), ((0, ()),)), ())


class HeldAgainstTheDocument(unittest.TestCase):
    def test_questions_within_questions(self):
        chance = random.Random(91)
        found = 0
        for turn in range(300):
            said, log = said_by_chance(chance, 4), log_by_chance(chance, chance.randint(0, 14))
            if length(said) > 40:
                continue
            told = walked(built(said), log)
            self.assertEqual(told, walk_by_the_document(said, log), (said, log))
            self.assertEqual(walked(question_of(spoken(said)), log), told)
            found += len(told)
        self.assertGreater(found, 400)

    def test_what_is_told_is_a_tuple_rising(self):
        chance = random.Random(92)
        for turn in range(100):
            told = walked(built(said_by_chance(chance, 3)), log_by_chance(chance, 12))
            self.assertIs(type(told), tuple)
            self.assertTrue(is_plain(told))
            self.assertTrue(all(type(pair) is tuple and len(pair) == 2 for pair in told))
            self.assertEqual([n for n, rows in told], sorted({n for n, rows in told}))
            for n, rows in told:
                self.assertEqual(list(rows), sorted(set(rows)))

    def test_asked_twice_it_is_the_same(self):
        chance = random.Random(93)
        for turn in range(50):
            question, log = built(said_by_chance(chance, 3)), log_by_chance(chance, 12)
            self.assertEqual(walked(question, log), walked(question, log))


if __name__ == "__main__":
    unittest.main()
