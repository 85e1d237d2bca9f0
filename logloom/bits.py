"""Numbers written bit behind bit, and read again."""

from logloom.errors import Spoiled

WIDE = 8


def number_of(bits):
    number = 0
    for bit in bits:
        number = number * 2 + bit
    return number


def bits_of(number, wide):
    return [number >> place & 1 for place in range(wide - 1, -1, -1)]


class Writer:
    def __init__(self):
        self.laid = []

    def put(self, number, wide):
        self.laid.extend(bits_of(number, wide))

    def told(self):
        # The noughts fill up what is told alone: more may be put behind it.
        filled = self.laid + [0] * (-len(self.laid) % WIDE)
        return tuple([number_of(filled[start:start + WIDE]) for start in range(0, len(filled), WIDE)])


class Reader:
    def __init__(self, numbers):
        self.numbers = numbers
        self.taken = 0

    def bits(self, wide):
        if wide > self.left():
            raise Spoiled()
        places = list(range(self.taken, self.taken + wide))
        self.taken = self.taken + wide
        return number_of([self.numbers[place // WIDE] >> (WIDE - 1 - place % WIDE) & 1 for place in places])

    def left(self):
        return len(self.numbers) * WIDE - self.taken
