"""Points 20 and 22: questions, where they hold and by which rows, how far they look back and on."""

import random
import unittest

from logloom.questions import Ahead, Behind, Both, Either, Not, Question, Row, Times, With
from speaking import CLASSES, WORDS, built, log_by_chance, looks, said_by_chance, told_rows

LOG = (
    (0, ("a", "1")), (1, ("a",)), (0, ("b", "b")), (2, ()), (1, ("b", "a")), (8, ()), (0, ("a",)), (1, ("a", "b")),
)


def everywhere(question, log):
    return [question.found(log, n) for n in range(len(log))]


class Kinds(unittest.TestCase):
    def test_each_stands_under_question(self):
        for kind in CLASSES.values():
            self.assertTrue(issubclass(kind, Question))
            self.assertIsNot(kind, Question)

    def test_a_question_itself(self):
        self.assertEqual((Question().back(), Question().on()), (0, 0))
        self.assertEqual(everywhere(Question(), LOG), [None] * 8)

    def test_row(self):
        self.assertEqual(everywhere(Row(0), LOG), [(0,), None, (2,), None, None, None, (6,), None])
        self.assertEqual(Row(8).found(LOG, 5), (5,))
        self.assertEqual(everywhere(Row(7), LOG), [None] * 8)

    def test_with(self):
        self.assertEqual(everywhere(With(0, 0, "a"), LOG), [(0,), None, None, None, None, None, (6,), None])
        self.assertEqual(everywhere(With(0, 1, "b"), LOG), [None, None, (2,), None, None, None, None, None])
        self.assertEqual(everywhere(With(1, 1, "a"), LOG), [None, None, None, None, (4,), None, None, None])

    def test_with_a_gap_that_the_entry_has_not(self):
        for gap in range(2, 8):
            self.assertEqual(everywhere(With(0, gap, "a"), LOG), [None] * 8)
        self.assertIsNone(With(2, 0, "a").found(LOG, 3))

    def test_with_tells_words_apart_to_the_sign(self):
        log = ((0, ("a",)), (0, ("A",)), (0, ("aa",)), (0, ("[a]",)), (0, ("1",)))
        for n, word in enumerate(("a", "A", "aa", "[a]", "1")):
            self.assertEqual([row for row in everywhere(With(0, 0, word), log) if row], [(n,)])


class BehindRows(unittest.TestCase):
    def test_at_the_reach_and_beyond_it(self):
        log = ((0, ("a",)), (2, ()), (2, ()), (1, ("a",)))
        self.assertEqual(Behind(0, 0, 1, 0, 3).found(log, 0), (0, 3))
        self.assertEqual(Behind(0, 0, 1, 0, 20).found(log, 0), (0, 3))
        self.assertIsNone(Behind(0, 0, 1, 0, 2).found(log, 0))
        self.assertIsNone(Behind(0, 0, 1, 0, 3).found(log[:3], 0))

    def test_the_first_of_several(self):
        log = ((0, ("a",)), (1, ("b",)), (1, ("a",)), (1, ("a",)), (1, ("a",)))
        self.assertEqual(Behind(0, 0, 1, 0, 4).found(log, 0), (0, 2))

    def test_rows_ahead_and_the_row_itself_do_not_count(self):
        log = ((0, ("a",)), (0, ("a", "a")))
        self.assertEqual(everywhere(Behind(0, 0, 0, 0, 5), log), [(0, 1), None])
        self.assertEqual(everywhere(Behind(0, 0, 0, 1, 5), log), [(0, 1), None])

    def test_other_gaps(self):
        log = ((0, ("a", "b")), (1, ("b", "c", "a")))
        self.assertIsNone(Behind(0, 0, 1, 0, 1).found(log, 0))
        self.assertEqual(Behind(0, 0, 1, 2, 1).found(log, 0), (0, 1))
        self.assertEqual(Behind(0, 1, 1, 0, 1).found(log, 0), (0, 1))

    def test_gaps_that_the_entries_have_not(self):
        log = ((0, ("a",)), (1, ("a",)))
        self.assertIsNone(Behind(0, 1, 1, 0, 1).found(log, 0))
        self.assertIsNone(Behind(0, 0, 1, 1, 1).found(log, 0))
        self.assertIsNone(Behind(0, 1, 1, 1, 1).found(log, 0))

    def test_other_letters(self):
        log = ((0, ("a",)), (1, ("a",)))
        self.assertIsNone(Behind(2, 0, 1, 0, 1).found(log, 0))
        self.assertIsNone(Behind(0, 0, 2, 0, 1).found(log, 0))

    def test_at_the_end(self):
        log = ((0, ("a",)), (0, ("a",)))
        self.assertIsNone(Behind(0, 0, 0, 0, 20).found(log, 1))


class AheadRows(unittest.TestCase):
    def test_at_the_reach_and_beyond_it(self):
        log = ((1, ("a",)), (2, ()), (2, ()), (0, ("a",)))
        self.assertEqual(Ahead(0, 0, 1, 0, 3).found(log, 3), (0, 3))
        self.assertEqual(Ahead(0, 0, 1, 0, 20).found(log, 3), (0, 3))
        self.assertIsNone(Ahead(0, 0, 1, 0, 2).found(log, 3))

    def test_the_last_of_several(self):
        log = ((1, ("a",)), (1, ("a",)), (1, ("a",)), (1, ("b",)), (0, ("a",)))
        self.assertEqual(Ahead(0, 0, 1, 0, 4).found(log, 4), (2, 4))

    def test_rows_behind_and_the_row_itself_do_not_count(self):
        log = ((0, ("a",)), (0, ("a", "a")))
        self.assertEqual(everywhere(Ahead(0, 0, 0, 0, 5), log), [None, (0, 1)])
        self.assertEqual(everywhere(Ahead(0, 1, 0, 0, 5), log), [None, (0, 1)])

    def test_gaps_that_the_entries_have_not(self):
        log = ((1, ("a",)), (0, ("a",)))
        self.assertIsNone(Ahead(0, 1, 1, 0, 1).found(log, 1))
        self.assertIsNone(Ahead(0, 0, 1, 1, 1).found(log, 1))
        self.assertIsNone(Ahead(0, 1, 1, 1, 1).found(log, 1))

    def test_at_the_beginning(self):
        log = ((0, ("a",)), (0, ("a",)))
        self.assertIsNone(Ahead(0, 0, 0, 0, 20).found(log, 0))
        self.assertEqual(Ahead(0, 0, 0, 0, 1).found(log, 1), (0, 1))


class TimesRows(unittest.TestCase):
    LOG = tuple((letter, ()) for letter in (0, 0, 1, 0, 1, 1, 0, 0, 0))

    def test_so_often_among_the_last_rows(self):
        told = everywhere(Times(3, 2, Row(0)), self.LOG)
        self.assertEqual(told, [None, (0, 1), None, (1, 3), None, None, None, (6, 7), (6, 7, 8)])

    def test_once_is_the_row_itself(self):
        told = everywhere(Times(1, 1, Row(0)), self.LOG)
        self.assertEqual(told, everywhere(Row(0), self.LOG))

    def test_it_must_hold_at_the_row_itself(self):
        self.assertIsNone(Times(3, 2, Row(0)).found(self.LOG, 2))
        self.assertIsNone(Times(20, 1, Row(0)).found(self.LOG, 5))

    def test_all_rows_at_which_it_holds_are_told(self):
        self.assertEqual(Times(20, 1, Row(0)).found(self.LOG, 8), (0, 1, 3, 6, 7, 8))
        self.assertEqual(Times(9, 6, Row(0)).found(self.LOG, 8), (0, 1, 3, 6, 7, 8))
        self.assertIsNone(Times(8, 6, Row(0)).found(self.LOG, 8))
        self.assertIsNone(Times(9, 7, Row(0)).found(self.LOG, 8))

    def test_more_often_than_there_are_rows(self):
        log = ((0, ()),) * 30
        for reach, least in ((1, 2), (3, 4), (19, 20)):
            self.assertEqual(everywhere(Times(reach, least, Row(0)), log), [None] * 30)
        self.assertEqual(Times(20, 20, Row(0)).found(log, 19), tuple(range(20)))
        self.assertIsNone(Times(20, 20, Row(0)).found(log, 18))

    def test_at_the_beginning(self):
        self.assertEqual(Times(20, 1, Row(0)).found(self.LOG, 0), (0,))
        self.assertIsNone(Times(20, 2, Row(0)).found(self.LOG, 0))

    def test_the_rows_at_which_it_holds_not_those_by_which(self):
        log = ((0, ("a",)), (0, ("b",)), (1, ("b",)), (1, ("a",)))
        inner = Behind(0, 0, 1, 0, 5)
        self.assertEqual((inner.found(log, 0), inner.found(log, 1)), ((0, 3), (1, 2)))
        self.assertEqual(Times(2, 2, inner).found(log, 1), (0, 1))
        self.assertEqual(Times(2, 2, Not(Row(1))).found(log, 1), (0, 1))

    def test_each_once_and_rising(self):
        inner = Either(Behind(0, 0, 0, 0, 3), Ahead(0, 0, 0, 0, 3))
        log = ((0, ("a",)),) * 4
        self.assertEqual(Times(4, 2, inner).found(log, 3), (0, 1, 2, 3))


class Joints(unittest.TestCase):
    def test_both(self):
        log = ((0, ("a",)), (1, ("a",)), (0, ("a",)), (0, ("b",)))
        self.assertEqual(Both(Row(0), Ahead(0, 0, 1, 0, 2)).found(log, 2), (1, 2))
        self.assertEqual(Both(Behind(0, 0, 0, 0, 3), Behind(0, 0, 1, 0, 3)).found(log, 0), (0, 1, 2))
        self.assertIsNone(Both(Row(0), Row(1)).found(log, 0))
        self.assertIsNone(Both(Row(1), Row(0)).found(log, 0))
        self.assertIsNone(Both(Row(1), Row(1)).found(log, 0))

    def test_both_by_the_same_rows(self):
        log = ((1, ("a",)), (0, ("a",)), (1, ("a",)))
        self.assertEqual(Both(Row(0), Row(0)).found(log, 1), (1,))
        self.assertEqual(Both(Behind(0, 0, 1, 0, 1), Ahead(0, 0, 1, 0, 1)).found(log, 1), (0, 1, 2))
        self.assertEqual(Both(Row(0), Not(Row(1))).found(log, 1), (1,))
        self.assertEqual(Both(Not(Row(2)), Not(Row(1))).found(log, 1), ())

    def test_either(self):
        log = ((0, ("a",)), (1, ("a",)), (0, ("a",)))
        near, far = Behind(0, 0, 1, 0, 2), Behind(0, 0, 0, 0, 2)
        self.assertEqual(Either(near, far).found(log, 0), (0, 1))
        self.assertEqual(Either(far, near).found(log, 0), (0, 2))
        self.assertEqual(Either(Row(2), far).found(log, 0), (0, 2))
        self.assertEqual(Either(Not(Row(2)), far).found(log, 0), ())
        self.assertEqual(Either(Row(0), Row(0)).found(log, 0), (0,))
        self.assertIsNone(Either(Row(1), Row(2)).found(log, 0))

    def test_not(self):
        self.assertEqual(everywhere(Not(Row(0)), LOG), [None, (), None, (), (), (), None, ()])
        self.assertEqual(everywhere(Not(Not(Row(0))), LOG), [(), None, (), None, None, None, (), None])


class BackAndOn(unittest.TestCase):
    def assertLooks(self, question, back, on):
        self.assertEqual((question.back(), question.on()), (back, on))

    def test_each_kind(self):
        self.assertLooks(Row(3), 0, 0)
        self.assertLooks(With(3, 1, "a"), 0, 0)
        self.assertLooks(Behind(1, 0, 2, 0, 7), 0, 7)
        self.assertLooks(Ahead(1, 0, 2, 0, 7), 7, 0)
        self.assertLooks(Times(5, 2, Row(0)), 4, 0)
        self.assertLooks(Times(1, 1, Row(0)), 0, 0)
        self.assertLooks(Not(Row(0)), 0, 0)

    def test_questions_within_questions(self):
        behind, ahead = Behind(0, 0, 0, 0, 3), Ahead(0, 0, 0, 0, 20)
        self.assertLooks(Both(behind, ahead), 20, 3)
        self.assertLooks(Either(behind, ahead), 20, 3)
        self.assertLooks(Either(ahead, Behind(0, 0, 0, 0, 5)), 20, 5)
        self.assertLooks(Both(Ahead(0, 0, 0, 0, 2), Ahead(0, 0, 0, 0, 9)), 9, 0)
        self.assertLooks(Not(Both(behind, ahead)), 20, 3)
        self.assertLooks(Times(20, 1, Both(behind, ahead)), 39, 3)
        self.assertLooks(Both(Times(4, 1, behind), Not(ahead)), 20, 3)
        self.assertLooks(Both(Times(4, 1, ahead), Row(1)), 23, 0)

    def test_held_against_the_words_of_the_document(self):
        chance = random.Random(81)
        for turn in range(300):
            said = said_by_chance(chance, 4)
            self.assertLooks(built(said), *looks(said))


class HeldAgainstTheDocument(unittest.TestCase):
    def test_where_and_by_which_rows(self):
        chance = random.Random(82)
        found = {True: 0, False: 0}
        for turn in range(600):
            said, log = said_by_chance(chance, 3), log_by_chance(chance, chance.randint(1, 14))
            question = built(said)
            for n in range(len(log)):
                told = question.found(log, n)
                self.assertEqual(told, told_rows(said, log, n), (said, log, n))
                found[told is None] += 1
        self.assertGreater(min(found.values()), 1000)

    def test_it_hangs_on_no_more_rows_than_told(self):
        chance = random.Random(83)
        for turn in range(400):
            question, log = built(said_by_chance(chance, 3)), log_by_chance(chance, 24)
            n = chance.randrange(24)
            told = question.found(log, n)
            start, stop = max(n - question.back(), 0), n + question.on() + 1
            other = log_by_chance(chance, start) + log[start:stop] + log_by_chance(chance, len(log[stop:]))
            self.assertEqual(question.found(other, n), told)
            self.assertEqual(question.found(log[:stop], n), told)
            cut = question.found(log[start:stop], n - start)
            self.assertEqual(None if cut is None else tuple(row + start for row in cut), told)

    def test_a_long_log(self):
        log = tuple((n % 3, (WORDS[n % 2],)) for n in range(200))
        question = Times(20, 5, Both(Behind(0, 0, 1, 0, 20), Ahead(0, 0, 2, 0, 20)))
        said = ("times", 20, 5, ("both", ("behind", 0, 0, 1, 0, 20), ("ahead", 0, 0, 2, 0, 20)))
        for n in range(200):
            self.assertEqual(question.found(log, n), told_rows(said, log, n))

    def test_the_same_is_told_again(self):
        chance = random.Random(84)
        for turn in range(50):
            question, log = built(said_by_chance(chance, 3)), log_by_chance(chance, 10)
            self.assertEqual(everywhere(question, log), everywhere(question, log))


if __name__ == "__main__":
    unittest.main()
