"""Points 27 and 28, of words: each sort put as bits and read again, and bits that no word is put to."""

import random
import unittest

from laying import MARK_SIGNS, NAME_SIGNS, WORDS, eights, laid, word_bits
from logloom.bits import Reader, Writer
from logloom.codes import next_word, put_word
from logloom.errors import Spoiled
from logloom.sorts import sort_of


def put(sort, word):
    writer = Writer()
    put_word(writer, sort, word)
    return writer.told()


def read(sort, bits):
    return next_word(Reader(eights(bits)), sort)


def signs(many, numbers, wide):
    return laid(many, 4) + "".join(laid(number, wide) for number in numbers)


class Put(unittest.TestCase):
    def assertPut(self, sort, word, bits):
        self.assertEqual(put(sort, word), eights(bits), word)
        reader = Reader(eights(bits + "1" * 9))
        left = reader.left()
        self.assertEqual(next_word(reader, sort), word)
        self.assertEqual(left - reader.left(), len(bits), word)

    def test_numbers(self):
        self.assertPut("number", "0", "00000")
        self.assertPut("number", "1", "00001" "1")
        self.assertPut("number", "2", "00010" "10")
        self.assertPut("number", "5", "00011" "101")
        self.assertPut("number", "255", "01000" "11111111")
        self.assertPut("number", "256", "01001" "100000000")
        self.assertPut("number", "999999999", "11110" "111011100110101100100111111111")

    def test_names(self):
        self.assertPut("name", "a", "0001" "000000")
        self.assertPut("name", "z", "0001" "011001")
        self.assertPut("name", "a0", "0010" "000000" "011010")
        self.assertPut("name", "b9", "0010" "000001" "100011")
        self.assertPut("name", "abcdefghijkl", signs(12, range(12), 6))
        self.assertPut("name", "zzzzzzzzzz99", signs(12, [25] * 10 + [35] * 2, 6))

    def test_marks(self):
        self.assertPut("mark", "A", "0001" "0011010")
        self.assertPut("mark", "Z", "0001" "0110011")
        self.assertPut("mark", ".", "0001" "0111110")
        self.assertPut("mark", "=", "0001" "1000011")
        self.assertPut("mark", "a.", "0010" "0000000" "0111110")
        self.assertPut("mark", "00", "0010" "0110100" "0110100")
        self.assertPut("mark", "0:-_/=9zZ", signs(9, [52, 63, 64, 65, 66, 67, 61, 25, 51], 7))
        self.assertPut("mark", "=" * 12, signs(12, [67] * 12, 7))

    def test_a_mark_with_each_of_its_signs(self):
        self.assertEqual(len(MARK_SIGNS), 68)
        for number, sign in enumerate(MARK_SIGNS):
            self.assertPut("mark", "=" + sign, "0010" "1000011" + laid(number, 7))

    def test_a_name_with_each_of_its_signs(self):
        self.assertEqual(len(NAME_SIGNS), 36)
        for number, sign in enumerate(NAME_SIGNS):
            self.assertPut("name", "a" + sign, "0010" "000000" + laid(number, 6))

    def test_lists(self):
        self.assertPut("list", "[]", "000")
        self.assertPut("list", "[0]", "001" "0" "00000")
        self.assertPut("list", "[a]", "001" "1" "0001" "000000")
        self.assertPut("list", "[5,a]", "010" "0" "00011" "101" "1" "0001" "000000")
        self.assertPut("list", "[b,1,c,0]", "100" "1" "0001" "000001" "0" "00001" "1" "1" "0001" "000010" "0" "00000")
        self.assertPut("list", "[0,0,0,0]", "100" + "000000" * 4)

    def test_put_tells_none(self):
        for sort, words in WORDS.items():
            self.assertIsNone(put_word(Writer(), sort, words[0]))

    def test_every_word_comes_back_with_words_around_it(self):
        chance = random.Random(141)
        for turn in range(100):
            chosen = [chance.choice(sorted(WORDS)) for place in range(chance.randint(0, 12))]
            words = [(sort, chance.choice(WORDS[sort])) for sort in chosen]
            writer = Writer()
            for sort, word in words:
                put_word(writer, sort, word)
            self.assertEqual(writer.told(), eights("".join(word_bits(sort, word) for sort, word in words)))
            reader = Reader(writer.told())
            self.assertEqual([(sort, next_word(reader, sort)) for sort in chosen], words)
            self.assertLess(reader.left(), 8)

    def test_numbers_at_the_edges_of_their_bits(self):
        for wide in range(1, 30):
            for number in (2 ** wide - 1, 2 ** wide):
                self.assertPut("number", str(number), word_bits("number", str(number)))


class Refused(unittest.TestCase):
    def assertSpoiled(self, sort, bits):
        # Behind the bits there are enough others, so that it is not for want of them.
        for behind in ("0" * 120, "1" * 120):
            self.assertRaises(Spoiled, read, sort, bits + behind)

    def test_a_number_with_more_bits_than_it_needs(self):
        self.assertSpoiled("number", "00001" "0")
        self.assertSpoiled("number", "00010" "01")
        self.assertSpoiled("number", "00100" "0111")
        self.assertSpoiled("number", "11110" "0" + "1" * 29)
        self.assertSpoiled("number", "11111" "0" + laid(999999999, 30))

    def test_a_number_of_more_than_nine_figures(self):
        self.assertSpoiled("number", "11110" + laid(1000000000, 30))
        self.assertSpoiled("number", "11110" + "1" * 30)
        self.assertSpoiled("number", "11111" + "1" * 31)
        self.assertSpoiled("number", "11111" + "1" + "0" * 30)

    def test_no_signs(self):
        self.assertSpoiled("name", "0000")
        self.assertSpoiled("mark", "0000")

    def test_more_than_twelve_signs(self):
        for many in (13, 14, 15):
            self.assertSpoiled("name", signs(many, [0] * many, 6))
            self.assertSpoiled("mark", signs(many, [67] * many, 7))

    def test_a_signs_number_beyond_the_last(self):
        for number in range(36, 64):
            self.assertSpoiled("name", signs(1, [number], 6))
            self.assertSpoiled("name", signs(2, [0, number], 6))
        for number in range(68, 128):
            self.assertSpoiled("mark", signs(1, [number], 7))
            self.assertSpoiled("mark", signs(2, [67, number], 7))

    def test_a_name_that_begins_with_a_figure(self):
        for number in range(26, 36):
            self.assertSpoiled("name", signs(1, [number], 6))
            self.assertSpoiled("name", signs(2, [number, 0], 6))
            self.assertSpoiled("name", signs(12, [number] * 12, 6))

    def test_a_mark_that_is_a_number_or_a_name(self):
        for word in ("0", "7", "123456789", "a", "z9", "abcdefghijkl"):
            self.assertSpoiled("mark", signs(len(word), [MARK_SIGNS.index(sign) for sign in word], 7))

    def test_a_mark_that_only_seems_one(self):
        for word in ("00", "1234567890", "0a", "aA"):
            bits = signs(len(word), [MARK_SIGNS.index(sign) for sign in word], 7)
            self.assertEqual(read("mark", bits), word)

    def test_more_than_four_items(self):
        for many in (5, 6, 7):
            self.assertSpoiled("list", laid(many, 3) + "000000" * many)

    def test_items_that_are_none(self):
        self.assertSpoiled("list", "001" "0" "00001" "0")
        self.assertSpoiled("list", "001" "0" "11110" + "1" * 30)
        self.assertSpoiled("list", "001" "1" "0000")
        self.assertSpoiled("list", "001" "1" + signs(1, [26], 6))
        self.assertSpoiled("list", "001" "1" + signs(1, [36], 6))
        self.assertSpoiled("list", "010" "0" "00000" "1" + signs(13, [0] * 13, 6))

    def test_too_few_bits(self):
        for sort in sorted(WORDS):
            self.assertRaises(Spoiled, next_word, Reader(()), sort)
        for sort, bits in (
                ("number", "01000" "111"), ("number", "11110" + "1" * 11), ("name", "0010" "0000"), ("name", "0011" "000000000000"),
                ("mark", "0010" "1000"), ("list", "100" "00000"), ("list", "001" "1" "0001"), ("list", "010" "00000")):
            self.assertEqual(len(bits) % 8, 0)
            self.assertRaises(Spoiled, read, sort, bits)

    def test_each_word_cut_short(self):
        for sort, words in WORDS.items():
            for word in words:
                whole = put(sort, word)
                for many in range((len(word_bits(sort, word)) - 1) // 8 + 1):
                    self.assertRaises(Spoiled, next_word, Reader(whole[:many]), sort)

    def test_bits_by_chance_are_refused_or_put_so(self):
        chance = random.Random(142)
        found = {True: 0, False: 0}
        for turn in range(6000):
            bits = "".join(chance.choice("01") for bit in range(chance.choice((16, 24, 40))))
            if turn % 2:
                bits = "0" * 3 + bits[3:]
            sort = chance.choice(sorted(WORDS))
            reader = Reader(eights(bits))
            try:
                word = next_word(reader, sort)
            except Spoiled:
                found[False] += 1
                continue
            found[True] += 1
            self.assertEqual(sort_of(word), sort)
            self.assertEqual(word_bits(sort, word), bits[:len(bits) - reader.left()])
        self.assertGreater(min(found.values()), 500)


if __name__ == "__main__":
    unittest.main()
