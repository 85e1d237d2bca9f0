"""Machines learnt by asking a teacher."""

from logloom.errors import NoParting
from logloom.errors import TooGreat
from logloom.least import least
from logloom.machines import lets_by


class Table:
    # Heads are runs to rooms that are known to be unlike, tails the runs that tell them apart. A tail's own tails are
    # tails too: so the machine lets by what was told of every head, also with a letter behind, and every tail.
    def __init__(self, many):
        self.many = many
        self.heads = [()]
        self.tails = [()]
        self.answers = {}

    def answer(self, run, may):
        if run not in self.answers:
            self.answers[run] = may(run)
        return self.answers[run]

    def marks_of(self, head, may):
        return tuple([self.answer(head + tail, may) for tail in self.tails])

    def marks_behind(self, head, may):
        return [self.marks_of(head + (letter,), may) for letter in range(self.many)]

    def find_heads(self, may, most):
        # Heads with unlike marks have unlike rooms in any machine, so more than most of them are too many.
        known = [self.marks_of(head, may) for head in self.heads]
        done = 0
        while done < len(self.heads):
            if len(self.heads) > most:
                raise TooGreat(most)
            head = self.heads[done]
            behind = self.marks_behind(head, may)
            for letter, marks in enumerate(behind):
                if marks not in known:
                    known.append(marks)
                    self.heads.append(head + (letter,))
            done = done + 1

    def least_machine(self, may):
        known = [self.marks_of(head, may) for head in self.heads]
        rooms = []
        for head in self.heads:
            nexts = tuple([known.index(marks) for marks in self.marks_behind(head, may)])
            rooms.append((self.answer(head, may), nexts))
        return least((self.many, tuple(rooms)))

    def add_tails(self, run):
        for start in range(len(run)):
            if run[start:] not in self.tails:
                self.tails.append(run[start:])


def learnt(many, may, parting, most=6):
    table = Table(many)
    while True:
        table.find_heads(may, most)
        machine = table.least_machine(may)
        run = parting(machine)
        if run is None:
            return (machine, len(table.answers))
        if table.answer(run, may) == lets_by(machine, run):
            raise NoParting(run)
        table.add_tails(run)
