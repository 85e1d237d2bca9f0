"""Points 2 and 3 for the whole program: its interface, its refusals, and its promises from texts to answers."""

import importlib
import inspect
import random
import unittest

from logloom import errors
from logloom.asking import question_of
from logloom.bits import Reader
from logloom.errors import LoomError, Spoiled
from logloom.feeds import Feed
from logloom.forms import gaps_of, writes, written
from logloom.groups import forms_of, groups
from logloom.joins import unlike
from logloom.learning import learnt
from logloom.least import least
from logloom.loom import Loom
from logloom.machines import lets_by
from logloom.odd import is_odd, odd
from logloom.parting import machines_part
from logloom.press import pressed
from logloom.reading import read_off
from logloom.rows import words_of
from logloom.showing import read_form
from logloom.stretches import shown
from logloom.strangers import strangers
from logloom.walking import walked
from logloom.watches import Watch
from trying import machines_drawn

FORM = (("word", "open"), ("gap", "name"))
NINE = tuple((str(number), "A") for number in range(9))
TEXTS = ("open file 1", "shut file", "open door 2", "shut door", "wait [a,1] x/y", "wait [] x/y")


def ended_watch():
    watch = Watch(question_of("row 0"))
    watch.end()
    return watch


REFUSALS = {
    "NoRow": (lambda: words_of("a b  c"), "at", 2),
    "NoFit": (lambda: gaps_of(FORM, ("open", "1")), "at", 1),
    "NoGap": (lambda: written(FORM, ("1",)), "at", 0),
    "NoForm": (lambda: read_form("open <what>"), "at", 1),
    "NoQuestion": (lambda: question_of("both row 0 row"), "at", 4),
    "TooMany": (lambda: groups(NINE), "number", 9),
    "TooWide": (lambda: read_off(8, ((0,) * 8, (1,) * 8), (), 4), "number", 16),
    "TooGreat": (lambda: read_off(1, ((),), ((0,),), 1), "number", 1),
    "Unknown": (lambda: pressed((FORM,), (("open", "a"), ("shut",))), "number", 1),
    "NoParting": (lambda: learnt(2, lambda run: True, lambda machine: (0, 1)), "run", (0, 1)),
    "Clash": (lambda: read_off(2, ((0,), (1, 1)), ((1, 1),)), "run", (1, 1)),
    "Ended": (lambda: ended_watch().end(), None, None),
    "Spoiled": (lambda: Reader((1,)).bits(9), None, None),
    "Untaught": (lambda: Loom(()).odd(()), None, None),
}
ARGUMENTS = {
    "sorts": "sort_of(text)", "rows": "words_of(text)",
    "forms": "writes(form, row) gaps_of(form, row) written(form, gaps)",
    "showing": "shown_form(form) read_form(text)", "joins": "least_form(rows) unlike(rows)",
    "groups": "groups(rows, most=2) forms_of(rows, most=2)", "strangers": "strangers(rows, most=2)",
    "machines": "room_behind(machine, room, run) lets_by(machine, run) ways(machine)",
    "parting": "rooms_part(machine, one, other) machines_part(one, other)",
    "least": "least(machine)", "joined": "joined(word, one, other)",
    "learning": "learnt(many, may, parting, most=6)",
    "beginnings": "beginnings(good, bad) apart(good, bad, one, other)",
    "reading": "read_off(many, good, bad, most=3)", "lonely": "lonely(good, bad, size)",
    "questions": "Question() Row(letter) With(letter, gap, word) Behind(letter, gap, other, there, reach) "
                 "Ahead(letter, gap, other, there, reach) Times(reach, least, question) Both(one, other) "
                 "Either(one, other) Not(one)",
    "asking": "question_of(text)", "walking": "walked(question, log)", "watches": "Watch(question)",
    "stretches": "useful(machine) shown(machine, run, head, tail)",
    "odd": "is_odd(machine, run, head, tail) odd(machine, run)", "bits": "Writer() Reader(numbers)",
    "codes": "put_word(writer, sort, word) next_word(reader, sort)",
    "press": "pressed(forms, rows) unpressed(forms, numbers)", "loom": "Loom(texts, most=2)",
    "feeds": "Feed(loom, question)",
}
METHODS = {
    ("sorts", "Sort"): "word() takes(text)", ("questions", "Question"): "back() on() found(log, n)",
    ("watches", "Watch"): "take(piece) end() kept()", ("bits", "Writer"): "put(number, wide) told()",
    ("bits", "Reader"): "bits(wide) left()",
    ("loom", "Loom"): "forms() letter(text) log(texts) teach(good, bad, most=3) machine() odd(texts) "
                      "asked(question, texts) pressed(texts) unpressed(numbers)",
    ("feeds", "Feed"): "take(text) end()",
}


def calls_in(text):
    return [(call.strip() + ")").replace("(", " (", 1).split(" ", 1) for call in text.split(")") if call.strip()]


class Interface(unittest.TestCase):
    def test_functions_and_classes_with_their_arguments(self):
        for name, calls in ARGUMENTS.items():
            module = importlib.import_module("logloom." + name)
            for called, arguments in calls_in(calls):
                held = getattr(module, called)
                self.assertEqual(held.__module__, "logloom." + name)
                self.assertEqual(str(inspect.signature(held)), arguments, called)

    def test_methods_with_their_arguments(self):
        for (name, kind), calls in METHODS.items():
            held = getattr(importlib.import_module("logloom." + name), kind)
            for called, arguments in calls_in(calls):
                own = arguments.replace("(", "(self, ", 1).replace("(self, )", "(self)")
                self.assertEqual(str(inspect.signature(getattr(held, called))), own, (kind, called))


class Refusals(unittest.TestCase):
    def test_one_of_each_class(self):
        classes = {name: held for name, held in vars(errors).items() if isinstance(held, type) and name != "LoomError"}
        self.assertEqual(sorted(REFUSALS), sorted(classes))
        self.assertEqual(len(REFUSALS), 14)
        for name, (call, field, value) in REFUSALS.items():
            with self.assertRaises(LoomError) as caught:
                call()
            refusal = caught.exception
            self.assertIs(type(refusal), classes[name])
            self.assertIsInstance(refusal, ValueError)
            self.assertEqual([other for other, held in classes.items() if isinstance(refusal, held)], [name])
            for other in ("at", "number", "run"):
                self.assertEqual(hasattr(refusal, other), other == field, (name, other))
            if field is not None:
                self.assertEqual(getattr(refusal, field), value)
                self.assertIs(type(getattr(refusal, field)), type(value))


def texts_by_chance(chance, many):
    rows = (
        lambda: "open " + chance.choice("abc") + " " + str(chance.randint(0, 999999999)),
        lambda: "shut " + chance.choice("abc"),
        lambda: "wait [" + ",".join(chance.choice(("a", "7", "b9")) for item in range(chance.randint(0, 4))) + "] x/y",
    )
    return tuple(chance.choice(rows)() for row in range(many))


class TheWhole(unittest.TestCase):
    def test_from_texts_to_forms_and_back_to_the_sign(self):
        chance = random.Random(181)
        for turn in range(60):
            texts = tuple(chance.sample(texts_by_chance(chance, 8), 8)) * 5
            rows = tuple(words_of(text) for text in texts)
            for most in (0, 1, 2):
                forms = forms_of(rows, most)
                for text, row in zip(texts, rows):
                    writing = [form for form in forms if writes(form, row)]
                    self.assertEqual(len(writing), 1)
                    self.assertEqual(written(writing[0], gaps_of(writing[0], row)), text)
                lonesome = strangers(rows, most)
                if lonesome is not None:
                    self.assertEqual(len(lonesome), len(forms))
                self.assertLessEqual(len(forms), len(unlike(rows)))

    def test_a_machine_learnt_by_asking(self):
        for machine in machines_drawn(182, 40, 3, 6):
            told, asked = learnt(
                machine[0], lambda run: lets_by(machine, run), lambda tried: machines_part(machine, tried))
            self.assertEqual(told, least(machine))
            self.assertIsNone(machines_part(machine, told))
            self.assertGreater(asked, 0)

    def test_from_logs_to_a_machine_and_what_is_odd(self):
        loom = Loom(TEXTS)
        say = {0: "open lid 5", 1: "shut lid", 2: "wait [9] x/y"}
        good = ((), (0, 1), (0, 2, 1))
        bad = ((0,), (1,), (0, 0))
        loom.teach(*[tuple(tuple(say[letter] for letter in run) for run in runs) for runs in (good, bad)])
        machine = loom.machine()
        for run in good:
            self.assertTrue(lets_by(machine, run))
            self.assertIsNone(loom.odd(tuple(say[letter] for letter in run)))
        for run in bad + ((1, 0, 2), (2, 2, 0, 0, 1)):
            self.assertEqual(loom.odd(tuple(say[letter] for letter in run)) is None, lets_by(machine, run))
        self.assert_odd_is_first_and_shortest(machine)

    def assert_odd_is_first_and_shortest(self, machine):
        chance = random.Random(183)
        for turn in range(100):
            run = tuple(chance.randrange(3) for letter in range(chance.randint(0, 6)))
            told = odd(machine, run)
            if told is None:
                self.assertTrue(lets_by(machine, run))
                continue
            start, stop, head, tail = told
            self.assertTrue(is_odd(machine, run[start:stop], head, tail))
            for shorter in ((start, stop - 1, head, False), (start + 1, stop, False, tail)):
                if shorter[0] <= shorter[1]:
                    first, last = shown(machine, run[shorter[0]:shorter[1]], shorter[2], shorter[3])
                    self.assertTrue(lets_by(machine, first + run[shorter[0]:shorter[1]] + last))

    def test_from_a_feed_in_pieces_to_the_walk_over_the_whole_log(self):
        chance = random.Random(184)
        questions = ("behind 0 0 1 0 6", "not ahead 1 0 0 0 4", "times 7 3 row 0", "both row 0 behind 0 1 0 1 20", "row 8")
        found = 0
        for turn in range(40):
            texts = list(texts_by_chance(chance, chance.choice((0, 5, 50, 200))))
            for place in range(len(texts) // 10):
                texts[chance.randrange(len(texts))] = chance.choice(("", " ", "open", "no! row"))
            said = "".join(text + "\n" for text in texts)
            loom = Loom(TEXTS)
            for question in questions:
                feed, told, left = Feed(loom, question), (), said
                while left:
                    many = chance.randint(0, 40)
                    told += feed.take(left[:many])
                    left = left[many:]
                told += feed.end()
                self.assertEqual(told, walked(question_of(question), loom.log(tuple(texts))))
                self.assertEqual(told, loom.asked(question, tuple(texts)))
                found += len(told)
        self.assertGreater(found, 500)

    def test_from_texts_to_bits_and_back_to_the_sign(self):
        chance = random.Random(185)
        for turn in range(60):
            loom, texts = Loom(TEXTS), texts_by_chance(chance, chance.choice((0, 1, 5, 255)))
            numbers = loom.pressed(texts)
            self.assertEqual(loom.unpressed(numbers), texts)
            place, bit = chance.randrange(len(numbers)), chance.randrange(8)
            other = numbers[:place] + (numbers[place] ^ (1 << bit),) + numbers[place + 1:]
            try:
                told = loom.unpressed(other)
            except Spoiled:
                continue
            self.assertNotEqual(told, texts)
            self.assertEqual(loom.pressed(told), other)


if __name__ == "__main__":
    unittest.main()
