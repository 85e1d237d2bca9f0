"""Points 27 and 28, of rows, and 3 of them: rows pressed by forms, and back."""

import itertools
import random
import unittest

from laying import WORDS, eights, laid, pressed_by_the_document, row_bits, some_forms, some_rows_by
from logloom.errors import Spoiled, Unknown
from logloom.press import pressed, unpressed

OPEN = (("word", "open"), ("gap", "name"))
SHUT = (("word", "shut"),)
COUNT = (("gap", "number"), ("gap", "list"))
ANY = (("gap", "name"), ("gap", "name"))


def is_spoiled(forms, numbers):
    try:
        unpressed(forms, numbers)
    except Spoiled:
        return True
    return False


class Pressed(unittest.TestCase):
    def test_no_rows(self):
        for forms in ((), (SHUT,), (OPEN, SHUT, COUNT)):
            self.assertEqual(pressed(forms, ()), (0,))
            self.assertEqual(unpressed(forms, (0,)), ())

    def test_one_form_needs_no_bits(self):
        self.assertEqual(pressed((SHUT,), (("shut",),)), (1,))
        self.assertEqual(pressed((SHUT,), (("shut",),) * 255), (255,))
        self.assertEqual(unpressed((SHUT,), (255,)), (("shut",),) * 255)

    def test_by_hand(self):
        rows = (("open", "ab"), ("shut",), ("5", "[]"))
        bits = "00000011" "00" "0010" "000000" "000001" "01" "10" "00011" "101" "000"
        self.assertEqual(pressed((OPEN, SHUT, COUNT), rows), eights(bits))
        self.assertEqual(unpressed((OPEN, SHUT, COUNT), eights(bits)), rows)

    def test_bits_for_each_number_of_forms(self):
        for many, wide in ((1, 0), (2, 1), (3, 2), (4, 2), (5, 3), (6, 3), (7, 3), (8, 3)):
            forms = tuple((("word", name),) for name in "abcdefgh"[:many])
            rows = tuple((name,) for name in "abcdefgh"[:many])
            bits = laid(many, 8) + "".join(laid(number, wide) for number in range(many))
            self.assertEqual(pressed(forms, rows), eights(bits))
            self.assertEqual(unpressed(forms, eights(bits)), rows)

    def test_the_first_of_several_forms_that_write_a_row(self):
        self.assertEqual(pressed((ANY, OPEN), (("open", "a"),)), eights("00000001" "0" + "0100" + "".join(
            laid("abcdefghijklmnopqrstuvwxyz".index(sign), 6) for sign in "open") + "0001" "000000"))
        self.assertEqual(pressed((OPEN, ANY), (("open", "a"),)), eights("00000001" "0" "0001" "000000"))
        self.assertEqual(pressed((SHUT, SHUT), (("shut",),)), (1, 0))

    def test_numbers_fill_up_with_noughts(self):
        self.assertEqual(pressed((SHUT, OPEN), (("shut",),) * 8), (8, 0))
        self.assertEqual(pressed((OPEN, SHUT), (("shut",),) * 8), (8, 255))
        self.assertEqual(pressed((OPEN, SHUT), (("shut",),) * 9), (9, 255, 128))

    def test_held_against_the_document(self):
        chance = random.Random(151)
        for turn in range(200):
            forms = some_forms(chance, chance.randint(0, 8))
            rows = some_rows_by(chance, forms, chance.choice((0, 1, 2, 5, 9)))
            told = pressed(forms, rows)
            self.assertEqual(told, pressed_by_the_document(forms, rows), (forms, rows))
            self.assertIs(type(told), tuple)
            self.assertTrue(all(type(number) is int and 0 <= number <= 255 for number in told))
            self.assertEqual(unpressed(forms, told), rows)

    def test_255_rows(self):
        chance = random.Random(152)
        for many in (1, 2, 8):
            forms = some_forms(chance, many)
            rows = some_rows_by(chance, forms, 255)
            told = pressed(forms, rows)
            self.assertEqual(told[0], 255)
            self.assertEqual(told, pressed_by_the_document(forms, rows))
            self.assertEqual(unpressed(forms, told), rows)

    def test_the_greatest_rows(self):
        form = (("gap", "list"),) * 8
        row = ("[abcdefghijkl,abcdefghijkl,zzzzzzzzzzzz,z99999999999]",) * 8
        told = pressed((form,), (row,) * 255)
        self.assertEqual(unpressed((form,), told), (row,) * 255)

    def test_every_word_in_each_gap(self):
        for sort, words in WORDS.items():
            form = (("word", "a"), ("gap", sort))
            rows = tuple(("a", word) for word in words)
            self.assertEqual(unpressed((form,), pressed((form,), rows)), rows)


class NoFormWrites(unittest.TestCase):
    def assertUnknown(self, number, forms, rows):
        with self.assertRaises(Unknown) as caught:
            pressed(forms, rows)
        self.assertEqual(caught.exception.number, number)

    def test_the_first_row_is_told(self):
        self.assertUnknown(0, (OPEN,), (("shut",), ("shut",)))
        self.assertUnknown(1, (OPEN,), (("open", "a"), ("shut",)))
        self.assertUnknown(1, (OPEN,), (("open", "a"), ("shut",), ("open", "b"), ("shut",)))
        self.assertUnknown(254, (SHUT,), (("shut",),) * 254 + (("open",),))

    def test_no_forms(self):
        self.assertUnknown(0, (), (("shut",),))

    def test_rows_that_nearly_fit(self):
        for row in (("open",), ("open", "1"), ("open", "a", "b"), ("Open", "a"), ("open", "A"), ("open", "[a]")):
            self.assertUnknown(0, (OPEN, SHUT, COUNT), (row,))


class Spoilt(unittest.TestCase):
    FORMS = (OPEN, SHUT, COUNT)
    ROWS = (("open", "ab"), ("shut",), ("5", "[7,a]"), ("open", "z9"))

    def refused_or_honest(self, forms, numbers):
        # True where refused; what is not refused is pressed to just these numbers again.
        try:
            rows = unpressed(forms, numbers)
        except Spoiled:
            return True
        self.assertEqual(pressed_by_the_document(forms, rows), numbers)
        self.assertEqual(pressed(forms, rows), numbers)
        return False

    def test_the_empty_tuple(self):
        for forms in ((), (SHUT,), self.FORMS):
            self.assertRaises(Spoiled, unpressed, forms, ())

    def test_rows_by_no_forms(self):
        for number in range(1, 256):
            self.assertRaises(Spoiled, unpressed, (), (number,))

    def test_noughts_behind(self):
        for forms, rows in (((), ()), ((SHUT,), (("shut",),)), (self.FORMS, ()), (self.FORMS, self.ROWS)):
            for many in (1, 2, 9):
                self.assertRaises(Spoiled, unpressed, forms, pressed(forms, rows) + (0,) * many)

    def test_anything_behind(self):
        for number in range(256):
            self.assertRaises(Spoiled, unpressed, self.FORMS, pressed(self.FORMS, self.ROWS) + (number,))
            self.assertRaises(Spoiled, unpressed, self.FORMS, (0, number))

    def test_filling_bits_that_are_not_0(self):
        numbers = pressed((OPEN, SHUT), (("shut",),))
        self.assertEqual(numbers, (1, 128))
        for place in range(7):
            self.assertRaises(Spoiled, unpressed, (OPEN, SHUT), (1, 128 + (1 << place)))

    def test_a_forms_number_beyond_the_last(self):
        for many in (3, 5, 6, 7):
            forms = tuple((("word", name),) for name in "abcdefgh"[:many])
            wide = 2 if many == 3 else 3
            for number in range(2 ** wide):
                numbers = eights("00000001" + laid(number, wide))
                self.assertEqual(is_spoiled(forms, numbers), number >= many)

    def test_a_form_that_is_not_the_first_which_writes_the_row(self):
        self.assertRaises(Spoiled, unpressed, (SHUT, SHUT), (1, 128))
        bits = "00000001" "1" "0001" "000000"
        self.assertRaises(Spoiled, unpressed, (ANY, OPEN), eights(bits))
        self.assertEqual(unpressed((SHUT, OPEN), eights(bits)), (("open", "a"),))
        self.assertRaises(Spoiled, unpressed, (OPEN, ANY), eights(
            "00000001" "1" + row_bits((ANY,), ("open", "a"))))
        self.assertEqual(
            unpressed((OPEN, ANY), eights("00000001" "1" + row_bits((ANY,), ("opens", "a")))), (("opens", "a"),))

    def test_too_few_numbers(self):
        numbers = pressed(self.FORMS, self.ROWS)
        for many in range(len(numbers)):
            self.assertRaises(Spoiled, unpressed, self.FORMS, numbers[:many])

    def test_words_that_none_is_put_to(self):
        form = (("gap", "number"),)
        self.assertRaises(Spoiled, unpressed, (form,), eights("00000001" "00001" "0"))
        self.assertRaises(Spoiled, unpressed, (form,), eights("00000001" "11110" + "1" * 30))
        self.assertEqual(unpressed((form,), eights("00000001" "00001" "1")), (("1",),))

    def test_each_bit_turned(self):
        numbers = pressed(self.FORMS, self.ROWS)
        refused = 0
        for place, bit in itertools.product(range(len(numbers)), range(8)):
            other = numbers[:place] + (numbers[place] ^ (1 << bit),) + numbers[place + 1:]
            if not self.refused_or_honest(self.FORMS, other):
                self.assertNotEqual(unpressed(self.FORMS, other), self.ROWS)
            else:
                refused += 1
        self.assertGreater(refused, 10)

    def test_numbers_left_out_put_in_and_put_otherwise(self):
        numbers = pressed(self.FORMS, self.ROWS)
        for place in range(len(numbers) + 1):
            self.refused_or_honest(self.FORMS, numbers[:place] + numbers[place + 1:])
            for number in range(256):
                self.refused_or_honest(self.FORMS, numbers[:place] + (number,) + numbers[place:])
                self.refused_or_honest(self.FORMS, numbers[:place] + (number,) + numbers[place + 1:])

    def test_all_tuples_of_one_and_two_numbers(self):
        forms = ((("gap", "list"),), SHUT, (("gap", "list"),))
        rows = [(word,) for word in ("[]", "[0]", "[1]", "[2]", "[3]", "shut")]
        expected = {}
        for many in range(5):
            for chosen in itertools.product(rows, repeat=many):
                numbers = pressed_by_the_document(forms, chosen)
                if len(numbers) <= 2:
                    expected[numbers] = chosen
        found = {}
        for numbers in itertools.chain([()], itertools.product(range(256)), itertools.product(range(256), repeat=2)):
            try:
                found[numbers] = unpressed(forms, numbers)
            except Spoiled:
                pass
        self.assertEqual(found, expected)

    def test_numbers_by_chance(self):
        chance = random.Random(153)
        found = {True: 0, False: 0}
        for turn in range(3000):
            forms = some_forms(chance, chance.randint(0, 8))
            numbers = list(pressed(forms, some_rows_by(chance, forms, chance.randint(0, 3))))
            for change in range(chance.randint(1, 2)):
                place = chance.randrange(len(numbers))
                numbers[place] ^= 1 << chance.randrange(8)
            found[self.refused_or_honest(forms, tuple(numbers))] += 1
        self.assertGreater(min(found.values()), 100)


if __name__ == "__main__":
    unittest.main()
