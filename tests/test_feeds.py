"""Point 32: feeds, texts that come in pieces cut anywhere."""

import itertools
import random
import unittest

from logloom.asking import question_of
from logloom.errors import Ended, NoQuestion
from logloom.feeds import Feed
from logloom.loom import Loom
from logloom.walking import walked
from logloom.watches import Watch

LOOM = Loom(("open file 1", "shut file", "open door 2", "shut door"))
TEXT = "open a 1\nopen b 2\nshut b\n\nno! row\nshut a\nopen a 3\nshut  a\nshut c\nopen c 4\n"
QUESTIONS = (
    "row 0", "row 8", "not row 8", "behind 0 0 1 0 3", "not behind 0 0 1 0 20", "ahead 1 0 0 0 5", "times 4 2 row 0",
    "both row 0 not behind 0 0 1 0 2", "either ahead 0 0 0 0 9 behind 0 0 1 0 1", "with 0 1 3",
)


def rows_in(text):
    rows = text.split("\n")
    return tuple(rows if rows[-1] != "" else rows[:-1])


def cut(text, places):
    places = [0] + list(places) + [len(text)]
    return [text[start:stop] for start, stop in zip(places, places[1:])]


def answers(question, pieces, loom=LOOM):
    feed = Feed(loom, question)
    return [feed.take(piece) for piece in pieces] + [feed.end()]


def answers_by_the_document(question, pieces):
    """A watch that is handed the entries of the rows that each piece ends."""
    watch, rest, told = Watch(question_of(question)), "", []
    for piece in pieces:
        texts = []
        for sign in piece:
            if sign == "\n":
                texts.append(rest)
                rest = ""
            else:
                rest += sign
        told.append(watch.take(LOOM.log(tuple(texts))))
    last = watch.take(LOOM.log((rest,))) if len(rest) > 0 else ()
    return told + [last + watch.end()]


class Answers(unittest.TestCase):
    def test_each_piece_by_the_rows_that_it_ends(self):
        feed = Feed(LOOM, "row 0")
        self.assertEqual(feed.take("open a"), ())
        self.assertEqual(feed.take(" 1"), ())
        self.assertEqual(feed.take("\nopen"), ((0, (0,)),))
        self.assertEqual(feed.take(" b 2\nshut b\nopen c 3\nop"), ((1, (1,)), (3, (3,))))
        self.assertEqual(feed.take("en d 4\n"), ((4, (4,)),))
        self.assertEqual(feed.end(), ())

    def test_what_is_settled_later(self):
        feed = Feed(LOOM, "behind 0 0 1 0 2")
        self.assertEqual(feed.take("open a 1\nshut a\n"), ())
        self.assertEqual(feed.take("open b 1"), ())
        self.assertEqual(feed.take("\n"), ((0, (0, 1)),))
        self.assertEqual(feed.take("shut b"), ())
        self.assertEqual(feed.end(), ((2, (2, 3)),))

    def test_a_last_row_without_a_line_feed(self):
        self.assertEqual(answers("row 0", ["open a 1\nopen b 2"]), [((0, (0,)),), ((1, (1,)),)])
        self.assertEqual(answers("row 0", ["open a 1"]), [(), ((0, (0,)),)])
        self.assertEqual(answers("row 8", ["op"]), [(), ((0, (0,)),)])

    def test_a_last_row_of_a_blank_alone(self):
        self.assertEqual(answers("row 8", ["open a 1\n "]), [(), ((1, (1,)),)])
        self.assertEqual(answers("row 8", [" "]), [(), ((0, (0,)),)])
        self.assertEqual(answers("row 8", ["\t"]), [(), ((0, (0,)),)])

    def test_an_empty_end_behind_a_line_feed(self):
        self.assertEqual(answers("not row 7", ["open a 1\n"]), [((0, ()),), ()])
        self.assertEqual(answers("not row 7", ["\n"]), [((0, ()),), ()])

    def test_empty_rows_within(self):
        self.assertEqual(answers("row 8", ["\n\nopen a 1\n\n"]), [((0, (0,)), (1, (1,)), (3, (3,))), ()])
        self.assertEqual(answers("row 0", ["\n", "\n", "open a 1", "\n", "\n"]), [(), (), (), ((2, (2,)),), (), ()])

    def test_nothing_at_all(self):
        for question in QUESTIONS:
            self.assertEqual(Feed(LOOM, question).end(), ())
            self.assertEqual(answers(question, ["", "", ""]), [(), (), (), ()])

    def test_empty_pieces(self):
        for question in QUESTIONS:
            told = answers(question, ["", TEXT[:13], "", "", TEXT[13:], ""])
            self.assertEqual([told[0], told[2], told[3], told[5]], [()] * 4)
            self.assertEqual(sum(told, ()), LOOM.asked(question, rows_in(TEXT)))

    def test_blanks_at_a_rows_end_are_signs_of_it(self):
        self.assertEqual(sum(answers("row 8", ["shut a \n shut a\nshut a", " ", "\n"]), ()), ((0, (0,)), (1, (1,)), (2, (2,))))


class HoweverItIsCut(unittest.TestCase):
    def test_cut_once_anywhere(self):
        for text in (TEXT, TEXT[:-1], TEXT + " ", "\n" + TEXT):
            for question in QUESTIONS:
                whole = LOOM.asked(question, rows_in(text))
                for place in range(len(text) + 1):
                    pieces = cut(text, (place,))
                    told = answers(question, pieces)
                    self.assertEqual(told, answers_by_the_document(question, pieces))
                    self.assertEqual(sum(told, ()), whole, (question, pieces))

    def test_sign_by_sign(self):
        for text in (TEXT, TEXT[:-1], TEXT + " "):
            for question in QUESTIONS:
                told = answers(question, list(text))
                self.assertEqual(told, answers_by_the_document(question, list(text)))
                self.assertEqual(sum(told, ()), LOOM.asked(question, rows_in(text)))

    def test_at_line_feeds(self):
        places = [place for place, sign in enumerate(TEXT) if sign == "\n"]
        for question in QUESTIONS:
            for moved in (0, 1):
                told = answers(question, cut(TEXT, [place + moved for place in places]))
                self.assertEqual(sum(told, ()), LOOM.asked(question, rows_in(TEXT)))

    def test_all_cuts_of_a_short_text(self):
        text = "shut a\n\nx"
        for question in ("row 1", "row 8", "not behind 1 0 1 0 2", "times 3 2 row 8"):
            for many in range(len(text)):
                for places in itertools.combinations(range(1, len(text)), many):
                    pieces = cut(text, places)
                    self.assertEqual(answers(question, pieces), answers_by_the_document(question, pieces))

    def test_long_texts_by_chance(self):
        chance = random.Random(171)
        lines = ("open a 1", "shut a", "open b 2", "shut b", "", " ", "no! row", "open a")
        for turn in range(60):
            text = "\n".join(chance.choice(lines) for row in range(chance.choice((3, 40, 200))))
            pieces = cut(text, sorted(chance.randint(0, len(text)) for place in range(chance.randint(0, 30))))
            for question in QUESTIONS:
                told = answers(question, pieces)
                self.assertEqual(told, answers_by_the_document(question, pieces))
                self.assertEqual(sum(told, ()), walked(question_of(question), LOOM.log(rows_in(text))))

    def test_a_loom_of_no_forms(self):
        self.assertEqual(answers("row 8", ["a\nb\n", "c"], Loom(())), [((0, (0,)), (1, (1,))), (), ((2, (2,)),)])
        self.assertEqual(answers("row 0", ["a\nb\n", "c"], Loom(())), [(), (), ()])


class BehindTheEnd(unittest.TestCase):
    def test_neither_is_taken(self):
        for question in QUESTIONS:
            for pieces in ([], [""], [TEXT], [TEXT, "shut a"], [" "]):
                feed = Feed(LOOM, question)
                for piece in pieces:
                    feed.take(piece)
                feed.end()
                for turn in range(3):
                    for piece in ("", "\n", "a", TEXT):
                        self.assertRaises(Ended, feed.take, piece)
                    self.assertRaises(Ended, feed.end)


class NoSuchQuestion(unittest.TestCase):
    def test_refused_as_the_feed_is_made(self):
        for question, at in (("", 0), ("row", 1), ("row 9", 1), ("row 0 ", 2), ("both row 0", 3), ("row 0\n", 1)):
            with self.assertRaises(NoQuestion) as caught:
                Feed(LOOM, question)
            self.assertEqual(caught.exception.at, at)


class TwoFeeds(unittest.TestCase):
    def test_they_do_not_touch_each_other(self):
        for question in QUESTIONS:
            one, other = Feed(LOOM, question), Feed(LOOM, question)
            told, others = (), ()
            backwards = TEXT[::-1]
            for sign, another in zip(TEXT, backwards):
                told += one.take(sign)
                others += other.take(another)
            told += one.end()
            self.assertRaises(Ended, one.take, "")
            others += other.take("") + other.end()
            self.assertEqual(told, LOOM.asked(question, rows_in(TEXT)))
            self.assertEqual(others, LOOM.asked(question, rows_in(backwards)))

    def test_a_loom_taught_between_changes_no_answers(self):
        for question in QUESTIONS:
            loom = Loom(("open file 1", "shut file", "open door 2", "shut door"))
            feed, told = Feed(loom, question), ()
            for number, sign in enumerate(TEXT):
                told += feed.take(sign)
                if number == 20:
                    loom.teach((("open a 1",),), ((),))
                if number == 40:
                    loom.teach((), (("shut a",),))
            self.assertEqual(told + feed.end(), loom.asked(question, rows_in(TEXT)))

    def test_a_feed_changes_no_loom(self):
        loom = Loom(("open file 1", "open door 2"))
        forms = loom.forms()
        answers("row 0", [TEXT], loom)
        self.assertEqual((loom.forms(), loom.machine()), (forms, None))


if __name__ == "__main__":
    unittest.main()
