"""Point 14: machines joined by a word."""

import random
import unittest

from logloom.joined import joined
from logloom.least import least
from logloom.machines import lets_by
from logloom.parting import machines_part
from trying import a_machine, doubled, is_let_by, machines_drawn, runs_in_order

TRUTHS = {
    "both": lambda one, other: one and other,
    "either": lambda one, other: one or other,
    "less": lambda one, other: one and not other,
    "unlike": lambda one, other: one is not other,
}
# An even number of ones; two noughts at the end.
EVEN = (2, ((True, (0, 1)), (False, (1, 0))))
STAIRS = (2, ((False, (1, 0)), (False, (2, 0)), (True, (2, 0))))
NOTHING = (2, ((False, (0, 0)),))
ALL = (2, ((True, (0, 0)),))


def counter(letter, size, rest):
    """Three letters; how often one of them comes, told by what is left over by size."""
    rooms = []
    for room in range(size):
        nexts = tuple((room + 1) % size if other == letter else room for other in range(3))
        rooms.append((room == rest, nexts))
    return 3, tuple(rooms)


class Joined(unittest.TestCase):
    def test_each_word_against_all_short_runs(self):
        for word, truth in TRUTHS.items():
            told = joined(word, EVEN, STAIRS)
            for run in runs_in_order(2, 8):
                even, stairs = sum(run) % 2 == 0, run[-2:] == (0, 0)
                self.assertIs(lets_by(told, run), truth(even, stairs), (word, run))

    def test_machines_written_out(self):
        one, other = (1, ((True, (1,)), (False, (0,)))), (1, ((True, (1,)), (False, (1,))))
        self.assertEqual(joined("both", one, other), other)
        self.assertEqual(joined("either", one, other), one)
        self.assertEqual(joined("less", one, other), (1, ((False, (1,)), (False, (2,)), (True, (1,)))))
        self.assertEqual(joined("less", other, one), (1, ((False, (0,)),)))
        self.assertEqual(joined("unlike", one, other), (1, ((False, (1,)), (False, (2,)), (True, (1,)))))

    def test_less_hangs_on_which_is_first(self):
        self.assertEqual(joined("less", ALL, NOTHING), ALL)
        self.assertEqual(joined("less", NOTHING, ALL), NOTHING)
        for word in ("both", "either", "unlike"):
            self.assertEqual(joined(word, EVEN, STAIRS), joined(word, STAIRS, EVEN))

    def test_with_itself(self):
        for machine in machines_drawn(41, 60):
            nothing = (machine[0], ((False, (0,) * machine[0]),))
            self.assertEqual(joined("both", machine, machine), least(machine))
            self.assertEqual(joined("either", machine, machine), least(machine))
            self.assertEqual(joined("less", machine, machine), nothing)
            self.assertEqual(joined("unlike", machine, machine), nothing)

    def test_no_letters(self):
        good, bad = (0, ((True, ()),)), (0, ((False, ()), (True, ())))
        for word, truth in TRUTHS.items():
            for one in (good, bad):
                for other in (good, bad):
                    self.assertEqual(joined(word, one, other), (0, ((truth(one == good, other == good), ()),)))

    def test_eight_letters(self):
        chance = random.Random(42)
        one, other = a_machine(chance, 8, 12), a_machine(chance, 8, 12)
        for word, truth in TRUTHS.items():
            told = joined(word, one, other)
            self.assertEqual(told, least(told))
            for turn in range(400):
                run = tuple(chance.randrange(8) for letter in range(chance.randrange(200)))
                self.assertIs(lets_by(told, run), truth(is_let_by(one, run), is_let_by(other, run)))

    def test_what_is_told_is_the_least_machine(self):
        for one in machines_drawn(43, 150):
            other = a_machine(random.Random(str(one)), one[0], 5)
            for word in TRUTHS:
                told = joined(word, one, other)
                self.assertEqual(told, least(told))
                self.assertEqual(joined(word, doubled(random.Random(1), one), least(other)), told)

    def test_held_against_all_short_runs(self):
        for one in machines_drawn(44, 100, most_letters=2, most_rooms=3):
            other = a_machine(random.Random(str(one)), one[0], 1 + len(str(one)) % 3)
            for word, truth in TRUTHS.items():
                told = joined(word, one, other)
                self.assertEqual(len(told[1]) <= len(one[1]) * len(other[1]), True)
                for run in runs_in_order(one[0], 7):
                    self.assertIs(is_let_by(told, run), truth(is_let_by(one, run), is_let_by(other, run)))

    def test_machines_of_more_rooms_handed_in_again(self):
        wide = joined("both", counter(0, 12, 0), counter(1, 12, 0))
        self.assertEqual(len(wide[1]), 144)
        turned = joined("both", counter(0, 12, 3), counter(1, 12, 5))
        self.assertEqual(len(turned[1]), 144)
        self.assertEqual(joined("both", wide, wide), wide)
        self.assertEqual(joined("less", wide, turned), wide)
        self.assertEqual(joined("both", wide, turned), (3, ((False, (0, 0, 0)),)))
        pair = joined("either", wide, turned)
        self.assertEqual(joined("less", pair, turned), wide)
        self.assertEqual(joined("unlike", pair, wide), turned)
        self.assertIsNone(machines_part(joined("both", pair, turned), turned))
        self.assertEqual(joined("both", wide, counter(0, 6, 0)), wide)

    def test_machines_of_more_rooms_held_against_short_runs(self):
        wide = joined("unlike", counter(0, 4, 1), counter(1, 5, 2))
        self.assertGreater(len(wide[1]), 12)
        for word, truth in TRUTHS.items():
            told = joined(word, wide, counter(2, 3, 1))
            for run in runs_in_order(3, 6):
                self.assertIs(is_let_by(told, run), truth((run.count(0) % 4 == 1) is not (run.count(1) % 5 == 2),
                                                          run.count(2) % 3 == 1))


if __name__ == "__main__":
    unittest.main()
