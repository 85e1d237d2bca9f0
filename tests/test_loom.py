"""Points 29 to 31: looms, what they are taught, and what they say of texts."""

import random
import unittest

from laying import pressed_by_the_document
from logloom.asking import question_of
from logloom.errors import Clash, NoQuestion, Spoiled, TooGreat, TooMany, TooWide, Unknown, Untaught
from logloom.forms import gaps_of
from logloom.groups import forms_of
from logloom.loom import Loom
from logloom.machines import lets_by
from logloom.odd import odd
from logloom.press import pressed
from logloom.reading import read_off
from logloom.rows import words_of
from logloom.showing import read_form, shown_form
from logloom.walking import walked

TEXTS = ("open file 1", "shut file", "open door 2", "shut door", "wait [a,1] x/y", "wait [] x/y")
FORMS = ("open <name> <number>", "shut <name>", "wait <list> x/y")
STRANGE = ("", " ", "open", "open file", "open  file 1", "shut 1", "wait [a] x/z", "a\tb", "shut file ", "no! row")
OPEN, SHUT, WAIT = "open window 77", "shut gate", "wait [7] x/y"
NINE = tuple(f"{number} A" for number in range(9))


def rows(texts):
    return tuple(words_of(text) for text in texts)


def taught(good, bad, most=3):
    loom = Loom(TEXTS)
    loom.teach(good, bad, most)
    return loom


class Made(unittest.TestCase):
    def assertUnknown(self, number, texts, most=2):
        with self.assertRaises(Unknown) as caught:
            Loom(texts, most)
        self.assertEqual(caught.exception.number, number)

    def test_its_forms_are_those_read_off(self):
        forms = Loom(TEXTS).forms()
        self.assertEqual(tuple(shown_form(form) for form in forms), FORMS)
        self.assertEqual(forms, forms_of(rows(TEXTS)))

    def test_no_texts(self):
        loom = Loom(())
        self.assertEqual(loom.forms(), ())
        self.assertEqual(loom.letter("open file 1"), 8)
        self.assertEqual(loom.log(("a", "")), ((8, ()), (8, ())))
        self.assertEqual(loom.log(()), ())

    def test_texts_that_are_alike(self):
        self.assertEqual(Loom(TEXTS * 6).forms(), Loom(TEXTS).forms())
        self.assertEqual(Loom(("a b",) * 40).forms(), (read_form("a b"),))

    def test_how_many_gaps(self):
        texts = ("a b 1", "a c 2", "a d 3")
        self.assertEqual(Loom(texts).forms(), forms_of(rows(texts), 2))
        self.assertEqual(len(Loom(texts).forms()), 1)
        for most in range(9):
            self.assertEqual(Loom(texts, most).forms(), forms_of(rows(texts), most))
            self.assertEqual(Loom(texts, most=most).forms(), forms_of(rows(texts), most))
        self.assertEqual(len(Loom(texts, 1).forms()), 3)
        self.assertEqual(len(Loom(texts, 0).forms()), 3)

    def test_two_gaps_where_nothing_is_said(self):
        texts = ("a b 1 A", "a c 2 B")
        self.assertEqual(len(Loom(texts).forms()), 2)
        self.assertEqual(len(Loom(texts, 3).forms()), 1)
        self.assertEqual(len(Loom(("a b 1", "a c 2")).forms()), 1)

    def test_the_first_text_that_tells_no_row(self):
        self.assertUnknown(0, ("",))
        self.assertUnknown(1, ("a", "a  b", "", "b"))
        self.assertUnknown(2, ("a", "b", "a b c d e f g h i"))
        self.assertUnknown(39, ("a",) * 39 + ("!",))

    def test_unknown_ahead_of_too_many(self):
        self.assertUnknown(9, NINE + ("a  b",))
        self.assertUnknown(0, ("a  b",) + NINE)

    def test_too_many(self):
        for most in (0, 2, 8):
            with self.assertRaises(TooMany) as caught:
                Loom(NINE, most)
            self.assertEqual(caught.exception.number, 9)
        self.assertEqual(len(Loom(NINE[:8], 0).forms()), 8)


class Letters(unittest.TestCase):
    def test_the_number_of_the_first_form_that_writes_it(self):
        loom = Loom(TEXTS)
        for text, letter in ((OPEN, 0), (SHUT, 1), (WAIT, 2), ("open file 1", 0), ("wait [] x/y", 2)):
            self.assertEqual(loom.letter(text), letter)
            self.assertIs(type(loom.letter(text)), int)

    def test_each_text_of_its_own_is_written_by_one(self):
        loom = Loom(TEXTS)
        for text in TEXTS:
            self.assertLess(loom.letter(text), 8)

    def test_of_several_forms_the_first(self):
        # None of its own texts is written by both forms, but "d b" is.
        loom = Loom(("a b", "c b", "d e", "d f"), 1)
        self.assertEqual([shown_form(form) for form in loom.forms()], ["<name> b", "d <name>"])
        self.assertEqual(loom.letter("d b"), 0)
        self.assertEqual(loom.log(("d b",)), ((0, ("d",)),))

    def test_8_where_no_form_writes_it_and_where_it_tells_no_row(self):
        loom = Loom(TEXTS)
        for text in STRANGE:
            self.assertEqual(loom.letter(text), 8, text)
            self.assertEqual(loom.log((text,)), ((8, ()),), text)

    def test_the_log(self):
        loom = Loom(TEXTS)
        log = ((0, ("window", "77")), (8, ()), (1, ("gate",)), (2, ("[7]",)))
        self.assertEqual(loom.log((OPEN, "open", SHUT, WAIT)), log)
        self.assertEqual(loom.log(()), ())
        self.assertEqual(loom.log((OPEN,) * 200), (log[0],) * 200)

    def test_the_log_of_its_own_texts(self):
        loom = Loom(TEXTS)
        for text, (letter, gaps) in zip(TEXTS, loom.log(TEXTS)):
            self.assertEqual(letter, loom.letter(text))
            self.assertEqual(gaps, gaps_of(loom.forms()[letter], words_of(text)))


class Taught(unittest.TestCase):
    GOOD = ((), (OPEN, SHUT), (OPEN, WAIT, SHUT))
    BAD = ((OPEN,), (SHUT,), (OPEN, OPEN))

    def test_no_machine_ahead_of_the_first_lesson(self):
        self.assertIsNone(Loom(TEXTS).machine())
        self.assertIsNone(Loom(()).machine())

    def test_its_machine_is_what_is_read_off(self):
        loom = Loom(TEXTS)
        self.assertIsNone(loom.teach(self.GOOD, self.BAD))
        good, bad = ((), (0, 1), (0, 2, 1)), ((0,), (1,), (0, 0))
        self.assertEqual(loom.machine(), read_off(3, good, bad))
        for run in good:
            self.assertTrue(lets_by(loom.machine(), run))
        for run in bad:
            self.assertFalse(lets_by(loom.machine(), run))

    def test_as_many_letters_as_forms(self):
        for texts, many in (((), 0), (("a",), 1), (TEXTS, 3), (NINE[:8], 8)):
            loom = Loom(texts, 2 if many < 8 else 0)
            loom.teach((), ())
            self.assertEqual(loom.machine()[0], many)
            self.assertEqual(loom.machine(), read_off(many, (), ()))

    def test_how_many_rooms(self):
        good, bad = ((OPEN, OPEN, OPEN),), ((), (OPEN,), (OPEN, OPEN))
        loom = Loom(("open a 1", "open b 2"))
        with self.assertRaises(TooGreat) as caught:
            loom.teach(good, bad)
        self.assertEqual(caught.exception.number, 3)
        self.assertIsNone(loom.machine())
        loom.teach(good, bad, 4)
        self.assertEqual(len(loom.machine()[1]), 4)
        loom.teach(good, bad, most=4)
        self.assertEqual(loom.machine(), read_off(1, ((0, 0, 0),), ((), (0,), (0, 0)), 4))

    def assertRefused(self, refusal, field, value, good, bad, most=3):
        for lesson in (None, (((),), ((OPEN,),))):
            loom = Loom(TEXTS)
            if lesson is not None:
                loom.teach(*lesson)
            before = loom.machine(), loom.forms()
            with self.assertRaises(refusal) as caught:
                loom.teach(good, bad, most)
            self.assertEqual(getattr(caught.exception, field), value)
            self.assertEqual((loom.machine(), loom.forms()), before)

    def test_unknown_with_the_texts_number_in_its_log(self):
        self.assertRefused(Unknown, "number", 0, ((), ("open",)), ())
        self.assertRefused(Unknown, "number", 2, ((OPEN, SHUT), (OPEN, SHUT, "", "")), ())
        self.assertRefused(Unknown, "number", 1, (), ((OPEN,), (OPEN, "no! row"), ("",)))

    def test_the_good_logs_first(self):
        self.assertRefused(Unknown, "number", 1, ((OPEN,), (OPEN, "open")), (("open",), (OPEN, OPEN, "open")))
        self.assertRefused(Unknown, "number", 3, ((OPEN, OPEN, SHUT, "open"), ("open",)), ())

    def test_unknown_ahead_of_a_clash(self):
        self.assertRefused(Unknown, "number", 1, ((OPEN,),), ((OPEN,), (SHUT, "open")))
        self.assertRefused(Unknown, "number", 0, ((OPEN,), ("",)), ((OPEN,),), 1)

    def test_a_clash(self):
        self.assertRefused(Clash, "run", (0, 1), ((OPEN,), (OPEN, SHUT), (WAIT,)), ((WAIT,), ("open a 3", "shut b")))

    def test_a_clash_ahead_of_too_wide(self):
        long = (OPEN,) * 8, (SHUT,) * 8
        self.assertRefused(Clash, "run", (0,) * 8, long, (long[0],), 4)

    def test_too_wide_ahead_of_too_great(self):
        good = (OPEN,) * 8, (SHUT,) * 8
        self.assertRefused(TooWide, "number", 12, good, ((OPEN,) * 7, (SHUT,) * 7), 4)
        self.assertRefused(TooGreat, "number", 1, good, ((OPEN,) * 7, (SHUT,) * 7), 1)

    def test_taught_again_it_has_the_new_machine_alone(self):
        loom = taught(self.GOOD, self.BAD)
        loom.teach(((OPEN,),), ((),))
        self.assertEqual(loom.machine(), read_off(3, ((0,),), ((),)))
        loom.teach((), ())
        self.assertEqual(loom.machine(), read_off(3, (), ()))

    def test_what_was_told_stays(self):
        loom = taught(self.GOOD, self.BAD)
        machine, forms = loom.machine(), loom.forms()
        loom.teach(((OPEN,),), ((),))
        self.assertEqual(machine, read_off(3, ((), (0, 1), (0, 2, 1)), ((0,), (1,), (0, 0))))
        self.assertEqual(forms, loom.forms())

    def test_two_looms_do_not_touch_each_other(self):
        one, other = Loom(TEXTS), Loom(TEXTS)
        one.teach(self.GOOD, self.BAD)
        self.assertIsNone(other.machine())
        other.teach((), ())
        self.assertEqual(one.machine(), taught(self.GOOD, self.BAD).machine())


class Odd(unittest.TestCase):
    GOOD, BAD = Taught.GOOD, Taught.BAD

    def test_a_row(self):
        for loom in (Loom(TEXTS), taught(self.GOOD, self.BAD)):
            self.assertEqual(loom.odd(("open",)), ("row", 0))
            self.assertEqual(loom.odd((OPEN, "", SHUT, "")), ("row", 1))
            self.assertEqual(loom.odd((SHUT,) * 199 + ("no! row",)), ("row", 199))
        self.assertEqual(Loom(()).odd(("a",)), ("row", 0))

    def test_untaught(self):
        for texts in ((), (OPEN,), (OPEN, SHUT)):
            self.assertRaises(Untaught, Loom(TEXTS).odd, texts)
        self.assertRaises(Untaught, Loom(()).odd, ())

    def test_untaught_behind_a_refused_lesson(self):
        loom = Loom(TEXTS)
        self.assertRaises(Clash, loom.teach, ((OPEN,),), ((OPEN,),))
        self.assertRaises(Untaught, loom.odd, (OPEN,))

    def test_a_stretch_or_none(self):
        loom = taught(self.GOOD, self.BAD)
        for texts in ((), (OPEN,), (SHUT, OPEN), (OPEN, SHUT, WAIT), (WAIT,) * 5, (OPEN, OPEN, SHUT) * 60):
            told = odd(loom.machine(), tuple(loom.letter(text) for text in texts))
            self.assertEqual(loom.odd(texts), None if told is None else ("stretch",) + told)

    def test_a_stretch_by_hand(self):
        # Read off is a machine that lets by all runs of OPEN alone.
        loom = taught(((), (OPEN,), (OPEN, OPEN)), ((SHUT,), (WAIT,), (SHUT, OPEN), (WAIT, OPEN)))
        self.assertIsNone(loom.odd((OPEN,) * 200))
        self.assertEqual(loom.odd((OPEN, OPEN, SHUT, OPEN)), ("stretch", 2, 3, False, False))
        told = loom.odd((OPEN, SHUT))
        self.assertEqual([type(part) for part in told], [str, int, int, bool, bool])

    def test_none_of_each_good_log_and_a_stretch_of_each_bad_one(self):
        chance = random.Random(161)
        done = 0
        for turn in range(150):
            logs = {}
            for log in range(chance.randint(0, 6)):
                texts = tuple(chance.choice((OPEN, SHUT)) for text in range(chance.randint(0, 3)))
                logs[texts] = chance.random() < 0.5
            good = tuple(texts for texts, kind in logs.items() if kind)
            bad = tuple(texts for texts, kind in logs.items() if not kind)
            loom = Loom(TEXTS)
            try:
                loom.teach(good, bad, 3)
            except (TooGreat, TooWide):
                continue
            done += 1
            for texts in good:
                self.assertIsNone(loom.odd(texts))
            for texts in bad:
                self.assertEqual(loom.odd(texts)[0], "stretch")
        self.assertGreater(done, 100)

    def test_a_loom_of_no_forms(self):
        loom = Loom(())
        loom.teach((), ((),))
        self.assertEqual(loom.odd(()), ("stretch", 0, 0, False, False))
        loom.teach(((),), ())
        self.assertIsNone(loom.odd(()))


class Asked(unittest.TestCase):
    LOG = (OPEN, "open door 2", SHUT, "shut window", "", WAIT)

    def test_the_walk_over_the_log(self):
        loom = Loom(TEXTS)
        self.assertEqual(loom.asked("row 0", self.LOG), ((0, (0,)), (1, (1,))))
        self.assertEqual(loom.asked("row 8", self.LOG), ((4, (4,)),))
        self.assertEqual(loom.asked("with 0 1 2", self.LOG), ((1, (1,)),))
        self.assertEqual(loom.asked("behind 0 0 1 0 20", self.LOG), ((0, (0, 3)),))
        self.assertEqual(loom.asked("not row 0", ()), ())
        for question in ("either row 1 row 2", "not ahead 1 0 0 0 5", "times 4 2 row 0", "with 2 0 [7]"):
            self.assertEqual(loom.asked(question, self.LOG), walked(question_of(question), loom.log(self.LOG)))

    def test_no_question(self):
        for question, at in (("", 0), ("row", 1), ("row 9", 1), ("row 0 row", 2), ("times 2 2 times 2 2 row 0", 3)):
            for texts in ((), self.LOG):
                with self.assertRaises(NoQuestion) as caught:
                    Loom(TEXTS).asked(question, texts)
                self.assertEqual(caught.exception.at, at)


class PressedTexts(unittest.TestCase):
    def test_texts_come_back_to_the_sign(self):
        loom = Loom(TEXTS)
        for texts in ((), TEXTS, (OPEN, SHUT, WAIT) * 60, (WAIT,) * 255):
            numbers = loom.pressed(texts)
            self.assertEqual(numbers, pressed(loom.forms(), rows(texts)))
            self.assertEqual(numbers, pressed_by_the_document(loom.forms(), rows(texts)))
            self.assertEqual(loom.unpressed(numbers), texts)

    def test_no_forms(self):
        self.assertEqual(Loom(()).pressed(()), (0,))
        self.assertEqual(Loom(()).unpressed((0,)), ())
        self.assertRaises(Spoiled, Loom(()).unpressed, (1,))

    def test_unknown_with_the_texts_number(self):
        loom = Loom(TEXTS)
        for texts, number in (
                (("",), 0), (("open",), 0), ((OPEN, "open", ""), 1), ((OPEN, "", "open"), 1),
                ((OPEN,) * 254 + (" ",), 254)):
            with self.assertRaises(Unknown) as caught:
                loom.pressed(texts)
            self.assertEqual(caught.exception.number, number)
        for text in STRANGE:
            self.assertRaises(Unknown, loom.pressed, (text,))

    def test_spoiled(self):
        loom = Loom(TEXTS)
        numbers = loom.pressed(TEXTS)
        for spoiled in ((), numbers[:-1], numbers + (0,), (1,) + numbers[1:], (0, 0), (1, 255)):
            self.assertRaises(Spoiled, loom.unpressed, spoiled)

    def test_it_needs_no_lesson_and_a_lesson_changes_nothing(self):
        loom = Loom(TEXTS)
        numbers = loom.pressed(TEXTS)
        loom.teach(Taught.GOOD, Taught.BAD)
        self.assertEqual(loom.pressed(TEXTS), numbers)
        self.assertEqual(loom.unpressed(numbers), TEXTS)


if __name__ == "__main__":
    unittest.main()
