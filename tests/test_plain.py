"""Point 2: answers are of whole numbers, texts, None, truths and tuples; what is handed in stays as it is."""

import copy
import unittest

from logloom.asking import question_of
from logloom.beginnings import apart, beginnings
from logloom.bits import Reader, Writer
from logloom.codes import next_word, put_word
from logloom.errors import LoomError
from logloom.feeds import Feed
from logloom.forms import gaps_of, writes, written
from logloom.groups import forms_of, groups
from logloom.joined import joined
from logloom.joins import least_form, unlike
from logloom.learning import learnt
from logloom.least import least
from logloom.lonely import lonely
from logloom.loom import Loom
from logloom.machines import lets_by, room_behind, ways
from logloom.odd import is_odd, odd
from logloom.parting import machines_part, rooms_part
from logloom.press import pressed, unpressed
from logloom.reading import read_off
from logloom.rows import words_of
from logloom.showing import read_form, shown_form
from logloom.sorts import Items, Mark, Name, Number, Sort, sort_of
from logloom.strangers import strangers
from logloom.stretches import shown, useful
from logloom.walking import walked
from logloom.watches import Watch
from trying import is_plain

FORM = (("word", "open"), ("gap", "name"), ("word", "[]"), ("gap", "list"))
ROW = ("open", "file", "[]", "[a,1]")
ROWS = (("a", "b"), ("a", "c"), ("1", "2"), ("a", "b"))
TEXTS = ("open file 1", "shut file", "open door 2")
NINE = tuple((str(number), "A") for number in range(9))
MACHINE = (2, ((True, (1, 0)), (False, (1, 1))))
OTHER = (2, ((True, (1, 1)), (True, (2, 0)), (False, (2, 2)), (True, (0, 0))))
GOOD, BAD = ((0, 0), ()), ((0,), (1, 1))
LOG = ((0, ("a",)), (1, ("a",)), (0, ("a",)), (2, ()), (0, ("b",)))
QUESTIONS = (
    "row 0", "with 0 0 a", "behind 0 0 1 0 3", "ahead 0 0 1 0 3", "times 3 2 row 0", "both row 0 ahead 0 0 0 0 9",
    "either row 1 not row 2", "not row 0",
)

CALLS = [
    (sort_of, ("a",)), (sort_of, ("",)), (words_of, ("open file [] [a,1]",)),
    (writes, (FORM, ROW)), (gaps_of, (FORM, ROW)), (written, (FORM, ("file", "[a,1]"))),
    (shown_form, (FORM,)), (read_form, ("open <name> [] <list>",)),
    (least_form, (ROWS[:2],)), (least_form, (ROWS,)), (unlike, (ROWS,)),
    (groups, (ROWS, 1)), (forms_of, (ROWS, 1)), (strangers, (ROWS, 1)), (groups, ((), 2)),
    (room_behind, (MACHINE, 0, (1, 0))), (lets_by, (MACHINE, (1, 0))), (ways, (MACHINE,)),
    (rooms_part, (OTHER, 0, 1)), (rooms_part, (OTHER, 1, 1)), (machines_part, (MACHINE, OTHER)),
    (machines_part, (MACHINE, MACHINE)), (least, (OTHER,)), (joined, ("both", MACHINE, OTHER)),
    (joined, ("either", MACHINE, OTHER)), (joined, ("less", MACHINE, OTHER)), (joined, ("unlike", MACHINE, OTHER)),
    (learnt, (2, lambda run: lets_by(OTHER, run), lambda machine: machines_part(OTHER, machine), 4)),
    (beginnings, (GOOD, BAD)), (apart, (GOOD, BAD, (), (0,))), (apart, (GOOD, BAD, (0,), (0,))),
    (read_off, (2, GOOD, BAD, 3)), (lonely, (GOOD, BAD, 2)), (lonely, (GOOD, BAD, 5)), (lonely, (GOOD, BAD, 0)),
    (useful, (OTHER,)), (shown, (OTHER, (1,), False, False)), (shown, (MACHINE, (0,), True, True)),
    (is_odd, (OTHER, (1,), True, True)), (odd, (MACHINE, (1, 0, 1))), (odd, (MACHINE, (1, 1))),
    (pressed, ((FORM,), (ROW, ROW))), (unpressed, ((FORM,), pressed((FORM,), (ROW, ROW)))), (pressed, ((), ())),
]
REFUSED = [
    (words_of, ("a  b",), "at"), (gaps_of, (FORM, ROW[:2]), "at"), (written, (FORM, ("file",)), "at"),
    (read_form, ("a <b>",), "at"), (groups, (NINE,), "number"), (forms_of, (NINE,), "number"),
    (strangers, (NINE,), "number"),
    (learnt, (2, lambda run: lets_by(OTHER, run), lambda machine: machines_part(OTHER, machine), 2), "number"),
    (read_off, (2, GOOD, BAD, 1), "number"), (read_off, (8, ((0,) * 8, (1,) * 8), (), 4), "number"),
    (question_of, ("row 9",), "at"), (pressed, ((FORM,), (ROW, ROWS[0])), "number"), (Loom, (("a", ""),), "number"),
    (Loom(TEXTS).pressed, (("shut a", "shut"),), "number"), (Loom(TEXTS).asked, ("row 9", TEXTS), "at"),
    (Loom(TEXTS).teach, (((), ("shut",)), ()), "number"), (Feed, (Loom(TEXTS), "row 9"), "at"),
]
REFUSED_WITH_RUN = [
    (learnt, (2, lambda run: lets_by(OTHER, run), lambda machine: (), 4)),
    (read_off, (2, GOOD, BAD + GOOD, 3)),
    (Loom(TEXTS).teach, ((TEXTS,), (TEXTS,))),
]


class Plain(unittest.TestCase):
    def test_what_is_told_is_plain(self):
        for function, handed in CALLS:
            told = function(*handed)
            self.assertTrue(is_plain(told), (function.__name__, told))

    def test_sorts_tell_plain_values(self):
        for sort in (Sort(), Number(), Name(), Items(), Mark()):
            self.assertIs(type(sort.word()), str)
            self.assertIs(type(sort.takes("a")), bool)

    def test_questions_tell_plain_values(self):
        for text in QUESTIONS:
            question = question_of(text)
            self.assertIs(type(question.back()), int)
            self.assertIs(type(question.on()), int)
            for n in range(len(LOG)):
                told = question.found(LOG, n)
                self.assertTrue(told is None or (type(told) is tuple and is_plain(told)), text)

    def test_walks_and_watches_tell_plain_values_that_stay(self):
        for text in QUESTIONS:
            question = question_of(text)
            self.assertTrue(is_plain(walked(question, LOG)), text)
            watch, pieces = Watch(question), (LOG[:2], (), LOG[2:])
            before, told = copy.deepcopy(pieces), []
            for piece in pieces:
                told.append(watch.take(piece))
                self.assertIs(type(watch.kept()), int)
            as_told = copy.deepcopy(told)
            self.assertTrue(is_plain(watch.end()))
            self.assertTrue(all(map(is_plain, told)), text)
            self.assertEqual((pieces, told), (before, as_told))

    def test_looms_and_feeds_tell_plain_values_that_stay(self):
        handed = TEXTS, ((), TEXTS[:2]), (TEXTS[:1],)
        before = copy.deepcopy(handed)
        loom = Loom(handed[0])
        told = [loom.forms(), loom.letter("shut a"), loom.log(handed[0]), loom.teach(handed[1], handed[2])]
        told += [loom.machine(), loom.odd(handed[0]), loom.odd(("",)), loom.asked("row 0", handed[0])]
        told += [loom.pressed(handed[0]), loom.unpressed(loom.pressed(handed[0]))]
        feed = Feed(loom, "not behind 0 0 1 0 2")
        told += [feed.take("open a 1\nshut a\nshut b\nopen"), feed.take(""), feed.end()]
        as_told = copy.deepcopy(told)
        loom.teach((), ((),))
        self.assertTrue(is_plain(tuple(told)), told)
        self.assertEqual((handed, told), (before, as_told))

    def test_writers_and_readers_tell_plain_values_that_stay(self):
        writer = Writer()
        told = [writer.put(5, 3), put_word(writer, "list", "[a,1]"), writer.told()]
        numbers = told[-1]
        as_told = copy.deepcopy(told)
        writer.put(255, 8)
        reader = Reader(numbers)
        told += [reader.left(), reader.bits(3), next_word(reader, "list"), reader.left()]
        self.assertTrue(is_plain(tuple(told)), told)
        self.assertEqual(told[:3], as_told)
        self.assertEqual(told[4:6], [5, "[a,1]"])

    def test_what_is_handed_in_is_not_changed(self):
        for function, handed in CALLS:
            before = copy.deepcopy(handed)
            function(*handed)
            self.assertEqual(handed, before, function.__name__)

    def test_the_same_is_told_again(self):
        for function, handed in CALLS:
            self.assertEqual(function(*handed), function(*handed), function.__name__)

    def test_the_fields_of_refusals_are_whole_numbers(self):
        for function, handed, field in REFUSED:
            with self.assertRaises(LoomError) as caught:
                function(*handed)
            self.assertIs(type(getattr(caught.exception, field)), int, function.__name__)

    def test_the_runs_of_refusals_are_tuples(self):
        for function, handed in REFUSED_WITH_RUN:
            with self.assertRaises(LoomError) as caught:
                function(*handed)
            self.assertIs(type(caught.exception.run), tuple, function.__name__)


if __name__ == "__main__":
    unittest.main()
