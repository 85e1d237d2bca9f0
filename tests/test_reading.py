"""Points 17 and 18: machines read off from runs, and what is refused; point 3, of these."""

import itertools
import random
import unittest

from logloom.beginnings import beginnings
from logloom.errors import Clash, LoomError, TooGreat, TooWide
from logloom.least import least
from logloom.reading import read_off
from trying import a_machine, all_machines, is_let_by, runs_drawn, runs_in_order

# Ten runs and eleven that are the only beginnings, besides the empty one.
TEN = tuple((letter,) for letter in range(8)) + ((0, 0), (0, 1))
ELEVEN = TEN + ((0, 2),)
# By one letter: only every fifth run is good, so five rooms are needed.
FIFTHS = ((), (0,) * 5), tuple((0,) * length for length in range(1, 5))


def may_be_given(rooms, good, bad):
    """Rooms is a dict of the beginnings; held against point 17 word by word."""
    for one, other in itertools.combinations(rooms, 2):
        if rooms[one] == rooms[other]:
            if (one in good and other in bad) or (one in bad and other in good):
                return False
            for letter in range(9):
                there = one + (letter,), other + (letter,)
                if there[0] in rooms and there[1] in rooms and rooms[there[0]] != rooms[there[1]]:
                    return False
    return True


def first_giving_by_trying(good, bad, rooms):
    """Every row of rooms gone through; of those with the fewest rooms the first."""
    starts = beginnings(good, bad)
    best = None
    for row in itertools.product(range(rooms), repeat=len(starts) - 1):
        key = len(set((0,) + row)), (0,) + row
        if (best is None or key < best) and may_be_given(dict(zip(starts, (0,) + row)), good, bad):
            best = key
    return best[1]


def machine_of_giving(many, good, bad, row):
    starts = beginnings(good, bad)
    given = dict(zip(starts, row))
    rooms = []
    for room in range(max(row) + 1):
        nexts = [room] * many
        for run in starts[1:]:
            if given[run[:-1]] == room:
                nexts[run[-1]] = given[run]
        rooms.append((any(given[run] == room for run in good), tuple(nexts)))
    return many, tuple(rooms)


def fits(machine, good, bad):
    return all(is_let_by(machine, run) for run in good) and not any(is_let_by(machine, run) for run in bad)


class ReadOff(unittest.TestCase):
    def test_no_runs(self):
        self.assertEqual(read_off(2, (), ()), (2, ((False, (0, 0)),)))
        self.assertEqual(read_off(0, (), ()), (0, ((False, ()),)))
        self.assertEqual(read_off(8, (), (), 4), (8, ((False, (0,) * 8),)))

    def test_no_letters(self):
        self.assertEqual(read_off(0, ((),), ()), (0, ((True, ()),)))
        self.assertEqual(read_off(0, (), ((),)), (0, ((False, ()),)))

    def test_good_runs_alone(self):
        self.assertEqual(read_off(2, ((0, 1), (1,)), ()), (2, ((True, (0, 0)),)))

    def test_bad_runs_alone(self):
        self.assertEqual(read_off(2, (), ((0, 1), (1,))), (2, ((False, (0, 0)),)))

    def test_an_even_number(self):
        good, bad = ((), (0, 0), (0, 0, 0, 0)), ((0,), (0, 0, 0))
        self.assertEqual(read_off(1, good, bad), (1, ((True, (1,)), (False, (0,)))))

    def test_the_first_giving_of_several(self):
        # Each beginning has the least room that leaves it at so many rooms.
        self.assertEqual(read_off(1, ((),), ((0,),)), (1, ((True, (1,)), (False, (1,)))))
        self.assertEqual(read_off(1, ((0, 0, 0),), ((0,),)), (1, ((True, (1,)), (False, (2,)), (False, (0,)))))
        self.assertEqual(read_off(2, ((0,),), ((1,),)), (2, ((True, (0, 1)), (False, (1, 1)))))
        self.assertEqual(read_off(2, ((1,),), ((0,),)), (2, ((False, (0, 1)), (True, (1, 1)))))

    def test_a_room_that_no_good_run_has_is_not_good(self):
        # Nothing is said of the empty run: its room is not good.
        machine = read_off(2, ((0,),), ((0, 0),))
        self.assertEqual(machine, (2, ((False, (1, 0)), (True, (0, 1)))))

    def test_a_letter_that_no_beginning_goes_on_by_stays(self):
        machine = read_off(4, ((1,),), ((),), 2)
        self.assertEqual(machine, (4, ((False, (0, 1, 0, 0)), (True, (1, 1, 1, 1)))))

    def test_runs_handed_in_twice(self):
        good, bad = ((), (0, 0)), ((0,), (0, 0, 0))
        self.assertEqual(read_off(1, good + good, bad + bad), read_off(1, good, bad))

    def test_the_order_of_the_runs_does_not_count(self):
        chance = random.Random(63)
        for turn in range(50):
            good, bad = runs_drawn(chance, 2, 5, 3)
            try:
                told = read_off(2, good, bad, 4)
            except TooGreat:
                continue
            self.assertEqual(read_off(2, good[::-1], bad[::-1], 4), told)

    def test_most_left_out(self):
        three = ((0, 0),), ((), (0,))
        self.assertEqual(len(read_off(1, three[0], three[1])[1]), 3)
        four = ((0, 0, 0),), ((), (0,), (0, 0))
        with self.assertRaises(TooGreat) as caught:
            read_off(1, four[0], four[1])
        self.assertEqual(caught.exception.number, 3)
        self.assertEqual(len(read_off(1, four[0], four[1], most=4)[1]), 4)

    def test_held_against_all_givings(self):
        chance = random.Random(64)
        sizes, tried = {}, 0
        while tried < 250:
            many = chance.randint(1, 3)
            good, bad = runs_drawn(chance, many, 3, 4)
            starts = beginnings(good, bad)
            if len(starts) > 6:
                continue
            tried += 1
            row = first_giving_by_trying(good, bad, len(starts))
            wider = many + chance.randint(0, 8 - many)
            sizes[max(row) + 1] = sizes.get(max(row) + 1, 0) + 1
            if max(row) < 4:
                self.assertEqual(read_off(wider, good, bad, 4), machine_of_giving(wider, good, bad, row), (good, bad))
            else:
                with self.assertRaises(TooGreat):
                    read_off(wider, good, bad, 4)
        self.assertGreaterEqual(min(sizes[size] for size in (1, 2, 3)), 5, sizes)

    def test_held_against_all_givings_of_more_beginnings(self):
        chance = random.Random(65)
        sizes, tried = set(), 0
        while tried < 12:
            good, bad = runs_drawn(chance, 2, 6, 3)
            starts = beginnings(good, bad)
            if not 7 <= len(starts) <= 9:
                continue
            try:
                told = read_off(2, good, bad, 3)
            except TooGreat:
                continue
            tried += 1
            sizes.add(len(told[1]))
            self.assertEqual(told, machine_of_giving(2, good, bad, first_giving_by_trying(good, bad, 3)))
        self.assertIn(3, sizes)

    def test_all_good_runs_and_no_bad_one(self):
        chance = random.Random(66)
        sizes = set()
        for turn in range(200):
            many = chance.randint(1, 2)
            teacher = a_machine(chance, many, chance.randint(1, 4))
            runs = [tuple(chance.randrange(many) for letter in range(chance.randint(0, 8))) for run in range(20)]
            good = tuple(run for run in runs if is_let_by(teacher, run))[:12]
            bad = tuple(run for run in runs if not is_let_by(teacher, run))[:12]
            told = read_off(many, good, bad, 4)
            self.assertTrue(fits(told, good, bad))
            self.assertLessEqual(len(told[1]), len(least(teacher)[1]))
            self.assertEqual(len(least(told)[1]), len(told[1]))
            sizes.add(len(told[1]))
        self.assertEqual(sizes, {1, 2, 3, 4})

    def test_no_machine_of_fewer_rooms_does(self):
        chance = random.Random(67)
        machines = {(many, size): list(all_machines(many, size)) for many in (1, 2) for size in (1, 2, 3)}
        for turn in range(40):
            many = chance.randint(1, 2)
            good, bad = runs_drawn(chance, many, 6, 5)
            try:
                size = len(read_off(many, good, bad, 4)[1])
            except TooGreat:
                size = 5
            for fewer in range(1, min(size, 4)):
                for machine in machines[many, fewer]:
                    self.assertFalse(fits(machine, good, bad), (good, bad, machine))

    def test_as_many_runs_as_may_be(self):
        # An odd number of ones behind the first nought, told by all that is as long.
        longest = [run for run in itertools.product(range(2), repeat=8) if run[0] == 0]
        good = tuple(run for run in longest if sum(run) % 2 == 1)[:12]
        bad = tuple(run for run in longest if sum(run) % 2 == 0)[:12]
        told = read_off(2, good, bad, 4)
        self.assertTrue(fits(told, good, bad))
        self.assertEqual(len(told[1]), 2)


class Refused(unittest.TestCase):
    def refusal(self, kind, many, good, bad, most):
        with self.assertRaises(LoomError) as caught:
            read_off(many, good, bad, most)
        self.assertIs(type(caught.exception), kind)
        return caught.exception

    def test_a_run_that_is_good_and_bad(self):
        self.assertEqual(self.refusal(Clash, 2, ((0,), (1,)), ((1,),), 3).run, (1,))
        self.assertEqual(self.refusal(Clash, 0, ((),), ((),), 1).run, ())

    def test_the_first_as_the_good_ones_are_handed_in(self):
        good, bad = ((0, 0), (1, 1, 1), (1,), ()), ((), (1,), (1, 1, 1), (0,))
        self.assertEqual(self.refusal(Clash, 2, good, bad, 3).run, (1, 1, 1))
        self.assertEqual(self.refusal(Clash, 2, good[::-1], bad, 3).run, ())

    def test_a_clash_ahead_of_the_others(self):
        self.assertEqual(self.refusal(Clash, 8, ELEVEN, ((0, 2),), 4).run, (0, 2))
        good, bad = FIFTHS
        self.assertEqual(self.refusal(Clash, 1, good, bad + ((0,) * 5,), 2).run, (0,) * 5)

    def test_too_wide_by_the_beginnings(self):
        self.assertEqual(self.refusal(TooWide, 8, TEN, (), 4).number, 10)
        self.assertEqual(self.refusal(TooWide, 8, (), ELEVEN, 4).number, 11)
        self.assertEqual(self.refusal(TooWide, 8, ELEVEN, (), 2).number, 11)

    def test_too_wide_by_letters_and_rooms(self):
        long = tuple((letter,) * 8 for letter in range(4))
        self.assertEqual(self.refusal(TooWide, 5, long, (), 2).number, 10)
        self.assertEqual(self.refusal(TooWide, 4, long, (), 3).number, 12)
        self.assertEqual(self.refusal(TooWide, 4, long, (), 4).number, 16)
        self.assertEqual(self.refusal(TooWide, 8, long, (), 4).number, 32)

    def test_just_not_too_wide(self):
        self.assertEqual(read_off(8, TEN[:9], (), 4), (8, ((True, (0,) * 8),)))
        long = tuple((letter,) * 8 for letter in range(3))
        self.assertEqual(read_off(3, long, (), 3), (3, ((True, (0,) * 3),)))
        self.assertEqual(read_off(8, ELEVEN, (), 1), (8, ((True, (0,) * 8),)))
        self.assertEqual(read_off(4, tuple((letter,) * 8 for letter in range(4)), (), 2), (4, ((True, (0,) * 4),)))

    def test_too_wide_by_the_default(self):
        with self.assertRaises(TooWide) as caught:
            read_off(4, tuple((letter,) * 8 for letter in range(4)), ())
        self.assertEqual(caught.exception.number, 12)

    def test_too_wide_ahead_of_too_great(self):
        good, bad = ((0,), (1, 0)), ((), (0, 0)) + tuple((letter,) for letter in range(1, 8)) + ((0, 1),)
        self.assertEqual(self.refusal(TooWide, 8, good, bad, 2).number, 11)
        self.assertEqual(self.refusal(TooGreat, 8, good, bad, 1).number, 1)

    def test_too_great(self):
        good, bad = FIFTHS
        for most in range(1, 5):
            self.assertEqual(self.refusal(TooGreat, 1, good, bad, most).number, most)
        self.assertEqual(len(read_off(1, good, bad, 5)[1]), 5)

    def test_most_from_one_to_four(self):
        for size in range(1, 5):
            good, bad = ((0,) * (size - 1),), tuple((0,) * length for length in range(size - 1))
            for most in range(1, 5):
                if size <= most:
                    self.assertEqual(len(read_off(1, good, bad, most)[1]), size)
                else:
                    self.assertEqual(self.refusal(TooGreat, 1, good, bad, most).number, most)

    def test_too_great_only_where_no_machine_does(self):
        chance = random.Random(68)
        machines = {size: list(all_machines(2, size)) for size in (1, 2, 3)}
        refused = 0
        for turn in range(60):
            good, bad = runs_drawn(chance, 2, 8, 4)
            most = chance.randint(1, 3)
            try:
                read_off(2, good, bad, most)
            except TooGreat:
                refused += 1
                for size in range(1, most + 1):
                    self.assertFalse(any(fits(machine, good, bad) for machine in machines[size]))
        self.assertGreater(refused, 10)


class ShortRuns(unittest.TestCase):
    def test_all_short_runs_of_a_machine(self):
        # Where every run of up to three letters is told, a machine of two rooms comes back whole.
        for teacher in all_machines(2, 2):
            runs = tuple(runs_in_order(2, 3))
            good = tuple(run for run in runs if is_let_by(teacher, run))[:12]
            bad = tuple(run for run in runs if not is_let_by(teacher, run))[:12]
            if len(good) + len(bad) == len(runs):
                self.assertEqual(least(read_off(2, good, bad)), least(teacher))


if __name__ == "__main__":
    unittest.main()
