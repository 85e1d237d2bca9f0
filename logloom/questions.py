"""Questions over logs: where they hold, by which rows, and how far they look back and on."""


def word_at(entry, place):
    # A place is a letter and a gap's number; None where the entry has another letter, or no such gap.
    if entry[0] != place[0] or place[1] >= len(entry[1]):
        return None
    return entry[1][place[1]]


def same_word(entry, place, other, away):
    word = word_at(entry, place)
    return word is not None and word == word_at(other, away)


class Question:
    def back(self):
        return 0

    def on(self):
        return 0

    def found(self, log, n):
        return None


class Row(Question):
    def __init__(self, letter):
        self.wanted = letter

    def found(self, log, n):
        return (n,) if log[n][0] == self.wanted else None


class With(Question):
    def __init__(self, letter, gap, word):
        self.here = (letter, gap)
        self.wanted = word

    def found(self, log, n):
        return (n,) if word_at(log[n], self.here) == self.wanted else None


class Behind(Question):
    def __init__(self, letter, gap, other, there, reach):
        self.here = (letter, gap)
        self.away = (other, there)
        self.reach = reach

    def on(self):
        return self.reach

    def found(self, log, n):
        for row in range(n + 1, min(n + self.reach + 1, len(log))):
            if same_word(log[n], self.here, log[row], self.away):
                return (n, row)
        return None


class Ahead(Question):
    def __init__(self, letter, gap, other, there, reach):
        self.here = (letter, gap)
        self.away = (other, there)
        self.reach = reach

    def back(self):
        return self.reach

    def found(self, log, n):
        for row in range(n - 1, max(n - self.reach, 0) - 1, -1):
            if same_word(log[n], self.here, log[row], self.away):
                return (row, n)
        return None


class Times(Question):
    def __init__(self, reach, least, question):
        self.reach = reach
        self.least = least
        self.inner = question

    def back(self):
        return self.inner.back() + self.reach - 1

    def on(self):
        return self.inner.on()

    def found(self, log, n):
        start = max(n - self.reach + 1, 0)
        rows = [row for row in range(start, n + 1) if self.inner.found(log, row) is not None]
        return tuple(rows) if n in rows and len(rows) >= self.least else None


class Joint(Question):
    # What both and either have in common; by itself it holds nowhere.
    def __init__(self, one, other):
        self.one = one
        self.other = other

    def back(self):
        return max(self.one.back(), self.other.back())

    def on(self):
        return max(self.one.on(), self.other.on())


class Both(Joint):
    def found(self, log, n):
        rows = self.one.found(log, n)
        others = self.other.found(log, n)
        if rows is None or others is None:
            return None
        return tuple(sorted(set(rows + others)))


class Either(Joint):
    def found(self, log, n):
        rows = self.one.found(log, n)
        return self.other.found(log, n) if rows is None else rows


class Not(Question):
    def __init__(self, one):
        self.one = one

    def back(self):
        return self.one.back()

    def on(self):
        return self.one.on()

    def found(self, log, n):
        return () if self.one.found(log, n) is None else None
