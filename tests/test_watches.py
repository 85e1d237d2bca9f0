"""Point 23, and 3 of watches: logs that come in pieces."""

import itertools
import random
import unittest

from logloom.asking import question_of
from logloom.errors import Ended
from logloom.questions import Ahead, Behind, Both, Either, Not, Question, Row, Times, With
from logloom.walking import walked
from logloom.watches import Watch
from speaking import built, log_by_chance, said_by_chance
from trying import is_plain

LONG = log_by_chance(random.Random(100), 200)
NEITHER = (Row(0), With(1, 0, "7"), Not(Row(2)))
BACKWARDS = (Ahead(0, 0, 1, 0, 5), Times(6, 2, Row(1)), Times(20, 3, Ahead(1, 0, 0, 0, 20)))
ONWARDS = (Behind(0, 0, 1, 0, 5), Not(Behind(1, 0, 0, 0, 20)), Either(Row(1), Behind(2, 0, 0, 0, 3)))
BOTH_WAYS = (
    Times(4, 2, Behind(0, 0, 1, 0, 6)), Both(Ahead(0, 0, 0, 0, 9), Behind(0, 0, 0, 0, 7)),
    Times(20, 2, Either(Ahead(1, 0, 0, 0, 20), Behind(0, 0, 1, 0, 20))),
)
ALL = NEITHER + BACKWARDS + ONWARDS + BOTH_WAYS


def cut(log, places):
    places = [0] + list(places) + [len(log)]
    return [log[start:stop] for start, stop in zip(places, places[1:])]


def cut_by_chance(chance, log):
    return cut(log, sorted(chance.randint(0, len(log)) for place in range(chance.randint(0, 12))))


def answers(question, pieces):
    watch = Watch(question)
    return [watch.take(piece) for piece in pieces] + [watch.end()]


def joined_answers(question, pieces):
    return sum(answers(question, pieces), ())


def answers_by_the_document(question, pieces):
    """What the walk over the whole log tells, each row with the piece that settles it."""
    told = walked(question, sum(pieces, ()))
    found, settled, there = [], 0, 0
    for piece in pieces:
        there += len(piece)
        now = max(there - question.on(), 0)
        found.append(tuple(pair for pair in told if settled <= pair[0] < now))
        settled = now
    return found + [tuple(pair for pair in told if pair[0] >= settled)]


class WhatIsSettled(unittest.TestCase):
    def test_at_once_where_nothing_is_looked_on(self):
        watch = Watch(Row(0))
        self.assertEqual(watch.take(((0, ()), (1, ()), (0, ()))), ((0, (0,)), (2, (2,))))
        self.assertEqual(watch.take(((0, ()),)), ((3, (3,)),))
        self.assertEqual(watch.end(), ())

    def test_when_as_many_rows_are_there_as_are_looked_on(self):
        watch = Watch(Behind(0, 0, 1, 0, 2))
        self.assertEqual(watch.take(((0, ("a",)),)), ())
        self.assertEqual(watch.take(((1, ("a",)),)), ())
        self.assertEqual(watch.take(((0, ("b",)),)), ((0, (0, 1)),))
        self.assertEqual(watch.take(((2, ()),)), ())
        self.assertEqual(watch.take(((1, ("b",)),)), ((2, (2, 4)),))
        self.assertEqual(watch.end(), ())

    def test_the_end_settles_all_rows_left(self):
        watch = Watch(Not(Behind(0, 0, 1, 0, 2)))
        self.assertEqual(watch.take(((0, ("a",)), (0, ("b",)), (1, ("b",)))), ((0, ()),))
        self.assertEqual(watch.end(), ((2, ()),))

    def test_a_row_that_holds_already_is_still_settled_later(self):
        watch = Watch(Either(Row(0), Behind(1, 0, 1, 0, 1)))
        self.assertEqual(watch.take(((0, ()),)), ())
        self.assertEqual(watch.take(((0, ()),)), ((0, (0,)),))
        self.assertEqual(watch.end(), ((1, (1,)),))

    def test_rows_are_numbered_from_the_first_piece_on(self):
        watch = Watch(Ahead(0, 0, 1, 0, 3))
        self.assertEqual(watch.take(((2, ()),) * 10 + ((1, ("a",)),)), ())
        self.assertEqual(watch.take(((2, ()), (0, ("a",)))), ((12, (10, 12)),))
        self.assertEqual(watch.take(((0, ("a",)), (0, ("a",)))), ((13, (10, 13)),))

    def test_all_rows_at_the_end(self):
        watch = Watch(Both(Row(0), Not(Behind(0, 0, 1, 0, 20))))
        self.assertEqual(watch.take(((0, ("a",)),) * 20), ())
        self.assertEqual(watch.end(), tuple((n, (n,)) for n in range(20)))

    def test_each_answer_is_a_plain_tuple(self):
        for question in ALL:
            for told in answers(question, cut(LONG, (3, 3, 50))):
                self.assertIs(type(told), tuple)
                self.assertTrue(is_plain(told))

    def test_a_question_that_holds_nowhere(self):
        self.assertEqual(answers(Question(), cut(LONG, (7,))), [(), (), ()])


class EmptyPieces(unittest.TestCase):
    def test_no_piece_at_all(self):
        for question in ALL:
            self.assertEqual(Watch(question).end(), ())

    def test_empty_pieces_alone(self):
        for question in ALL:
            self.assertEqual(answers(question, [(), (), ()]), [(), (), (), ()])

    def test_first_between_and_last(self):
        log = LONG[:30]
        for question in ALL:
            told = answers(question, [(), log[:12], (), (), log[12:], ()])
            self.assertEqual([told[0], told[2], told[3], told[5]], [()] * 4)
            self.assertEqual(sum(told, ()), walked(question, log))

    def test_they_settle_nothing(self):
        watch = Watch(Behind(0, 0, 1, 0, 2))
        self.assertEqual(watch.take(((0, ("a",)), (1, ("a",)))), ())
        for turn in range(5):
            self.assertEqual(watch.take(()), ())
        self.assertEqual(watch.take(((2, ()),)), ((0, (0, 1)),))


class HoweverItIsCut(unittest.TestCase):
    def test_as_one_piece_and_row_by_row(self):
        for question in ALL:
            told = walked(question, LONG)
            self.assertEqual(joined_answers(question, [LONG]), told)
            self.assertEqual(joined_answers(question, [(entry,) for entry in LONG]), told)
        self.assertGreater(min(len(walked(question, LONG)) for question in ALL), 0)

    def test_cut_once_anywhere(self):
        for question in ALL:
            told = walked(question, LONG)
            for place in range(0, 201, 3):
                self.assertEqual(joined_answers(question, cut(LONG, (place,))), told)

    def test_all_cuts_of_short_logs(self):
        log = LONG[:6]
        for question in ALL:
            told = walked(question, log)
            for many in range(6):
                for places in itertools.combinations(range(1, 6), many):
                    self.assertEqual(joined_answers(question, cut(log, places)), told, places)

    def test_each_piece_is_answered_by_just_what_it_settles(self):
        chance = random.Random(101)
        for turn in range(60):
            for question in ALL:
                pieces = cut_by_chance(chance, LONG[:chance.randint(0, 60)])
                self.assertEqual(answers(question, pieces), answers_by_the_document(question, pieces))
        for question in ALL:
            pieces = [(entry,) for entry in LONG]
            self.assertEqual(answers(question, pieces), answers_by_the_document(question, pieces))

    def test_questions_and_logs_by_chance(self):
        chance = random.Random(102)
        found = 0
        for turn in range(400):
            question, log = built(said_by_chance(chance, 3)), log_by_chance(chance, chance.randint(0, 40))
            pieces = cut_by_chance(chance, log)
            told = answers(question, pieces)
            self.assertEqual(told, answers_by_the_document(question, pieces))
            self.assertEqual(sum(told, ()), walked(question, log))
            found += len(sum(told, ()))
        self.assertGreater(found, 1000)

    def test_a_question_read_from_a_text(self):
        question = question_of("times 5 2 both behind 0 0 1 0 4 not ahead 0 1 2 1 3")
        self.assertEqual(joined_answers(question, cut(LONG, range(0, 200, 7))), walked(question, LONG))


class Kept(unittest.TestCase):
    def assertKeepsNoMore(self, watch, question):
        told = watch.kept()
        self.assertIs(type(told), int)
        self.assertLessEqual(0, told)
        self.assertLessEqual(told, question.back() + question.on())

    def test_nothing_ahead_of_the_first_piece(self):
        for question in ALL:
            self.assertEqual(Watch(question).kept(), 0)

    def test_no_more_than_is_looked_back_and_on(self):
        chance = random.Random(103)
        for question in ALL:
            for pieces in ([LONG], [(entry,) for entry in LONG], cut_by_chance(chance, LONG), [(), LONG[:1], ()], []):
                watch = Watch(question)
                for piece in pieces:
                    watch.take(piece)
                    self.assertKeepsNoMore(watch, question)
                watch.end()
                self.assertKeepsNoMore(watch, question)

    def test_by_chance(self):
        chance = random.Random(104)
        for turn in range(200):
            question = built(said_by_chance(chance, 3))
            watch = Watch(question)
            for piece in cut_by_chance(chance, log_by_chance(chance, 40)):
                watch.take(piece)
                self.assertKeepsNoMore(watch, question)
            watch.end()
            self.assertKeepsNoMore(watch, question)

    def test_what_is_needed_is_kept(self):
        watch = Watch(Ahead(0, 0, 1, 0, 3))
        watch.take(LONG)
        self.assertEqual(watch.kept(), 3)
        watch = Watch(Behind(0, 0, 1, 0, 4))
        watch.take(LONG[:2])
        self.assertEqual(watch.kept(), 2)
        watch.take(LONG)
        self.assertEqual(watch.kept(), 4)

    def test_what_it_holds_is_no_more_than_it_tells(self):
        for question in ALL:
            watch = Watch(question)
            for piece in cut(LONG, (1, 60, 61, 150)) + [None]:
                told = watch.end() if piece is None else watch.take(piece)
                held = [value for value in vars(watch).values() if isinstance(value, (tuple, list, dict))]
                self.assertLessEqual(sum(len(value) for value in held), watch.kept())
                self.assertIsNotNone(told)

    def test_a_refusal_does_not_change_it(self):
        for question in ALL:
            watch = Watch(question)
            watch.take(LONG)
            watch.end()
            told = watch.kept()
            for turn in range(3):
                self.assertRaises(Ended, watch.take, LONG)
                self.assertEqual(watch.kept(), told)


class BehindTheEnd(unittest.TestCase):
    def test_pieces_and_ends_are_refused_again_and_again(self):
        for question in ALL:
            for pieces in ([], [()], [LONG], cut(LONG, (100,))):
                watch = Watch(question)
                for piece in pieces:
                    watch.take(piece)
                watch.end()
                for turn in range(3):
                    self.assertRaises(Ended, watch.take, LONG[:1])
                    self.assertRaises(Ended, watch.take, ())
                    self.assertRaises(Ended, watch.end)

    def test_it_is_not_ended_ahead_of_its_end(self):
        watch = Watch(Row(0))
        for turn in range(3):
            self.assertEqual(watch.take(()), ())
        self.assertEqual(watch.end(), ())


class TwoWatches(unittest.TestCase):
    def test_they_do_not_touch_each_other(self):
        for question in ALL:
            one, other = Watch(question), Watch(question)
            first, second = cut(LONG, (40, 90)), cut(LONG[::-1], (10, 150))
            told, others = (), ()
            for piece, another in zip(first, second):
                told += one.take(piece)
                others += other.take(another)
            told += one.end()
            others += other.take(()) + other.end()
            self.assertEqual(told, walked(question, LONG))
            self.assertEqual(others, walked(question, LONG[::-1]))

    def test_the_end_of_one_is_not_that_of_the_other(self):
        question = Times(3, 1, Behind(0, 0, 1, 0, 2))
        one, other = Watch(question), Watch(question)
        one.take(LONG[:5])
        one.end()
        self.assertEqual(other.kept(), 0)
        self.assertEqual(other.take(LONG) + other.end(), walked(question, LONG))

    def test_one_within_the_other_question(self):
        inner = Behind(0, 0, 1, 0, 5)
        one, other = Watch(inner), Watch(Not(inner))
        told = sum([one.take((entry,)) + other.take((entry,)) for entry in LONG], ()) + one.end() + other.end()
        self.assertEqual(sorted(n for n, rows in told), list(range(200)))


if __name__ == "__main__":
    unittest.main()
