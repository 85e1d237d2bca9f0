"""Watches: questions over logs that come in pieces."""

from logloom.errors import Ended


def moved(rows, far):
    return tuple([row + far for row in rows])


class Watch:
    def __init__(self, question):
        self.question = question
        self.entries = ()
        self.first = 0
        self.settled = 0
        self.over = False

    def kept(self):
        return len(self.entries)

    def take(self, piece):
        self.refuse_if_over()
        entries = self.entries + piece
        return self.settle(entries, max(self.first + len(entries) - self.question.on(), 0))

    def end(self):
        self.refuse_if_over()
        told = self.settle(self.entries, self.first + len(self.entries))
        self.entries = ()
        self.over = True
        return told

    def refuse_if_over(self):
        if self.over:
            raise Ended()

    def settle(self, entries, stop):
        told = []
        for n in range(self.settled, stop):
            rows = self.question.found(entries, n - self.first)
            if rows is not None:
                told.append((n, moved(rows, self.first)))
        # The next row to be settled looks no further back than this, so what stands ahead of it is let go.
        first = max(stop - self.question.back(), self.first)
        self.entries = entries[first - self.first:]
        self.first = first
        self.settled = stop
        return tuple(told)
