"""Point 27, of bits: numbers written bit behind bit, and read again."""

import random
import unittest

from laying import eights, laid
from logloom.bits import Reader, Writer
from logloom.errors import Spoiled


def written_bits(pairs):
    writer = Writer()
    for number, wide in pairs:
        writer.put(number, wide)
    return writer.told()


def pairs_by_chance(chance, many):
    wides = [chance.randint(0, 30) for place in range(many)]
    return [(chance.randrange(2 ** wide), wide) for wide in wides]


class Written(unittest.TestCase):
    def test_nothing(self):
        self.assertEqual(Writer().told(), ())

    def test_put_tells_none(self):
        self.assertIsNone(Writer().put(3, 4))
        self.assertIsNone(Writer().put(0, 0))

    def test_the_greatest_bit_first(self):
        self.assertEqual(written_bits([(1, 8)]), (1,))
        self.assertEqual(written_bits([(128, 8)]), (128,))
        self.assertEqual(written_bits([(6, 3), (1, 5)]), (0b11000001,))
        self.assertEqual(written_bits([(0x1234, 16)]), (0x12, 0x34))

    def test_noughts_behind(self):
        self.assertEqual(written_bits([(1, 1)]), (128,))
        self.assertEqual(written_bits([(0, 1)]), (0,))
        self.assertEqual(written_bits([(1, 9)]), (0, 128))
        self.assertEqual(written_bits([(5, 3)]), (0b10100000,))

    def test_a_width_of_none(self):
        self.assertEqual(written_bits([(0, 0)]), ())
        self.assertEqual(written_bits([(0, 0), (255, 8), (0, 0)]), (255,))

    def test_the_least_and_the_greatest_of_each_width(self):
        for wide in range(31):
            greatest = 2 ** wide - 1
            self.assertEqual(written_bits([(0, wide)]), eights("0" * wide))
            self.assertEqual(written_bits([(greatest, wide)]), eights("1" * wide))
            self.assertEqual(written_bits([(greatest, wide), (0, wide), (1, 1)]), eights("1" * wide + "0" * wide + "1"))

    def test_told_takes_nothing_away(self):
        chance = random.Random(131)
        pairs, writer, bits = pairs_by_chance(chance, 60), Writer(), ""
        told = []
        for number, wide in pairs:
            writer.put(number, wide)
            bits += laid(number, wide)
            told.append(writer.told())
            self.assertEqual(told[-1], eights(bits))
            self.assertEqual(writer.told(), told[-1])
        self.assertEqual(told[-1], written_bits(pairs))

    def test_noughts_fill_up_what_is_told_alone(self):
        writer = Writer()
        writer.put(1, 1)
        self.assertEqual(writer.told(), (128,))
        writer.put(127, 7)
        self.assertEqual(writer.told(), (255,))
        writer.put(1, 1)
        self.assertEqual(writer.told(), (255, 128))

    def test_what_is_told_is_a_tuple_of_whole_numbers(self):
        chance = random.Random(132)
        for turn in range(30):
            told = written_bits(pairs_by_chance(chance, 10))
            self.assertIs(type(told), tuple)
            self.assertTrue(all(type(number) is int and 0 <= number <= 255 for number in told))

    def test_two_writers_do_not_touch_each_other(self):
        one, other = Writer(), Writer()
        one.put(3, 2)
        other.put(0, 8)
        one.put(0, 6)
        self.assertEqual(one.told(), (0b11000000,))
        self.assertEqual(other.told(), (0,))
        self.assertEqual(Writer().told(), ())


class Read(unittest.TestCase):
    def test_the_greatest_bit_first(self):
        reader = Reader((0b11000001, 0x12, 0x34))
        self.assertEqual([reader.bits(3), reader.bits(5), reader.bits(16)], [6, 1, 0x1234])

    def test_what_is_left(self):
        reader = Reader((255, 0))
        for wide, left in ((0, 16), (1, 15), (7, 8), (0, 8), (8, 0), (0, 0)):
            reader.bits(wide)
            self.assertEqual(reader.left(), left)
        self.assertEqual(Reader(()).left(), 0)
        self.assertIs(type(Reader((1,)).left()), int)

    def test_asked_what_is_left_it_takes_nothing(self):
        reader = Reader((0b10100000,))
        for turn in range(3):
            self.assertEqual(reader.left(), 8)
        self.assertEqual(reader.bits(3), 5)

    def test_a_width_of_none(self):
        self.assertEqual(Reader(()).bits(0), 0)
        self.assertEqual(Reader((255,)).bits(0), 0)

    def test_beyond_what_is_left(self):
        for numbers, wide in (((), 1), ((), 30), ((255,), 9), ((255, 255, 255), 25), ((255, 255, 255), 30)):
            self.assertRaises(Spoiled, Reader(numbers).bits, wide)

    def test_none_is_taken_then(self):
        reader = Reader((0b10110101, 0b11110000))
        self.assertEqual(reader.bits(3), 0b101)
        for wide in (14, 15, 30):
            for turn in range(2):
                self.assertRaises(Spoiled, reader.bits, wide)
                self.assertEqual(reader.left(), 13)
        self.assertEqual(reader.bits(13), 0b1010111110000)
        self.assertRaises(Spoiled, reader.bits, 1)
        self.assertEqual((reader.bits(0), reader.left()), (0, 0))

    def test_what_was_put_comes_back(self):
        chance = random.Random(133)
        for turn in range(100):
            pairs = pairs_by_chance(chance, chance.randint(0, 30))
            numbers = written_bits(pairs)
            reader, many = Reader(numbers), 8 * len(numbers)
            for number, wide in pairs:
                told = reader.bits(wide)
                many -= wide
                self.assertIs(type(told), int)
                self.assertEqual((told, reader.left()), (number, many))
            self.assertLess(reader.left(), 8)
            self.assertEqual(reader.bits(reader.left()), 0)

    def test_each_width(self):
        for wide in range(31):
            for number in {0, 2 ** wide - 1, 2 ** wide // 2, 2 ** wide // 3}:
                reader = Reader(written_bits([(1, 1), (number, wide), (1, 1)]))
                self.assertEqual([reader.bits(1), reader.bits(wide), reader.bits(1)], [1, number, 1])

    def test_two_readers_do_not_touch_each_other(self):
        numbers = (1, 2, 3)
        one, other = Reader(numbers), Reader(numbers)
        self.assertEqual(one.bits(8), 1)
        self.assertEqual(other.bits(16), 0x0102)
        self.assertEqual((one.bits(8), one.left(), other.left()), (2, 8, 8))
        self.assertEqual(numbers, (1, 2, 3))


if __name__ == "__main__":
    unittest.main()
