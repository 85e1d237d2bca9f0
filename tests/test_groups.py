"""Point 9: groups of rows, as few as can be, and the forms read off; point 3, its first sentence."""

import itertools
import random
import unittest

from logloom.errors import LoomError, TooMany
from logloom.forms import gaps_of, writes, written
from logloom.groups import forms_of, groups
from logloom.joins import least_form, unlike
from trying import forms_that_write, least_by_trying, many_gaps, some_rows

MANY = tuple((str(number), "x", "A") for number in range(12))


def all_groupings(many):
    """Each way to put the numbers below many in groups."""
    if many == 0:
        return [()]
    found = []
    for fewer in all_groupings(many - 1):
        found.append(fewer + ((many - 1,),))
        for place, group in enumerate(fewer):
            found.append(fewer[:place] + (group + (many - 1,),) + fewer[place + 1:])
    return found


def may_stand(grouping, rows, most):
    for group in grouping:
        form = least_by_trying([rows[number] for number in group], most)
        if form is None:
            return False
        if any(writes(form, row) for number, row in enumerate(rows) if number not in group):
            return False
    return True


def first_by_trying(rows, most):
    good = [grouping for grouping in all_groupings(len(rows)) if may_stand(grouping, rows, most)]
    return min(good, key=lambda grouping: (len(grouping), grouping))


def drawn(seed, turns, most_rows):
    chance = random.Random(seed)
    for turn in range(turns):
        words = chance.choice((("a", "b"), ("a", "b", "c"), ("a", "b", "1"), ("a", "b", "1", "2", "A")))
        rows = some_rows(chance, chance.randint(1, most_rows), chance.randint(1, 4), words)
        yield rows, chance.randint(0, 4)
        # Rows of two words that cross one another: forms of one gap share rows here.
        yield some_rows(chance, most_rows, 2, ("a", "b", "c")), 1


# a <name> and <name> x share the row number 3, and each takes it by two others alone.
CROSS = (("b", "x"), ("c", "x"), ("a", "y"), ("a", "x"), ("a", "z"))


class Groups(unittest.TestCase):
    def test_no_rows(self):
        for most in range(9):
            self.assertEqual(groups((), most), ())

    def test_one_row(self):
        self.assertEqual(groups((("a",),), 0), ((0,),))

    def test_rows_that_go_together(self):
        rows = (("open", "a"), ("shut", "1"), ("open", "b"), ("shut", "2"))
        self.assertEqual(groups(rows, 1), ((0, 2), (1, 3)))

    def test_rows_handed_in_twice(self):
        rows = (("a", "1"), ("a", "1"), ("b", "b"), ("a", "1"), ("a", "2"), ("b", "b"))
        self.assertEqual(groups(rows, 1), ((0, 2), (1,)))

    def test_unlike_sorts_and_lengths_stay_apart(self):
        rows = (("a",), ("1",), ("A",), ("[]",), ("a", "a"))
        self.assertEqual(groups(rows, 8), ((0,), (1,), (2,), (3,), (4,)))

    def test_how_many_gaps_there_may_be(self):
        rows = (("a",) * 8, ("a",) * 7 + ("b",), ("b",) * 8)
        self.assertEqual(groups(rows, 0), ((0,), (1,), (2,)))
        for most in range(1, 7):
            self.assertEqual(groups(rows, most), ((0, 1), (2,)), most)
        self.assertEqual(groups(rows, 7), ((0,), (1, 2)))
        self.assertEqual(groups(rows, 8), ((0, 1, 2),))

    def test_two_gaps_where_nothing_is_said(self):
        two = (("a", "a", "a"), ("b", "b", "a"))
        three = (("a", "a", "a"), ("b", "b", "b"))
        self.assertEqual(groups(two), ((0, 1),))
        self.assertEqual(groups(three), ((0,), (1,)))
        self.assertEqual(groups(three, most=3), ((0, 1),))

    def test_eight_unlike_rows(self):
        self.assertEqual(groups(MANY[:8], 1), ((0, 1, 2, 3, 4, 5, 6, 7),))
        self.assertEqual(groups(MANY[:8], 0), tuple((number,) for number in range(8)))
        self.assertEqual(groups(MANY[:8] * 5, 1), ((0, 1, 2, 3, 4, 5, 6, 7),))

    def test_more_unlike_rows_are_refused(self):
        for many in range(9, 13):
            for function in (groups, forms_of):
                with self.assertRaises(TooMany) as caught:
                    function(MANY[:many] + MANY[:3], 1)
                self.assertIs(type(caught.exception), TooMany)
                self.assertIsInstance(caught.exception, LoomError)
                self.assertEqual(caught.exception.number, many)

    def test_a_beginning_of_another_group_comes_first(self):
        rows = (("a", "b"), ("a", "c"), ("d", "c"))
        self.assertTrue(may_stand(((0, 1), (2,)), rows, 1))
        self.assertEqual(groups(rows, 1), ((0,), (1, 2)))

    def test_the_lesser_second_number_comes_first(self):
        rows = (("a", "b"), ("a", "c"), ("d", "b"))
        self.assertTrue(may_stand(((0, 2), (1,)), rows, 1))
        self.assertEqual(groups(rows, 1), ((0, 1), (2,)))

    def test_no_group_writes_a_row_of_another_one(self):
        # The first two make <name> <name> x, which writes the last one, so that can't stand with the third.
        rows = (("a", "b", "x"), ("c", "d", "x"), ("a", "d", "y"), ("a", "d", "x"))
        self.assertFalse(may_stand(((0, 1), (2, 3)), rows, 2))
        for most in range(4):
            told = groups(rows, most)
            self.assertEqual(told, first_by_trying(rows, most))
            for group, form in zip(told, forms_of(rows, most)):
                self.assertEqual(tuple(n for n, row in enumerate(rows) if writes(form, row)), group)

    def test_no_row_stands_in_two_groups(self):
        self.assertEqual(groups(CROSS, 1), ((0,), (1,), (2, 3, 4)))
        self.assertEqual(groups(CROSS[::-1], 1), ((0,), (1, 3, 4), (2,)))

    def test_held_against_all_groupings(self):
        for rows, most in drawn(9, 300, 5):
            self.assertEqual(groups(rows, most), first_by_trying(rows, most), (rows, most))

    def test_held_against_all_groupings_of_more_rows(self):
        for rows, most in drawn(10, 25, 8):
            self.assertEqual(groups(rows, most), first_by_trying(rows, most), (rows, most))


class FormsOf(unittest.TestCase):
    def test_the_least_forms_in_the_order_of_the_groups(self):
        rows = (("open", "a"), ("shut", "1"), ("open", "b"), ("open", "a"), ("shut", "2"))
        self.assertEqual(forms_of(rows, 1), (
            (("word", "open"), ("gap", "name")), (("word", "shut"), ("gap", "number"))))
        self.assertEqual(forms_of(rows), forms_of(rows, 2))
        self.assertEqual(forms_of(()), ())

    def test_two_gaps_where_nothing_is_said(self):
        two = (("a", "a", "a"), ("b", "b", "a"))
        three = (("a", "a", "a"), ("b", "b", "b"))
        self.assertEqual(len(forms_of(two)), 1)
        self.assertEqual(len(forms_of(three)), 2)
        self.assertEqual(len(forms_of(three, most=3)), 1)

    def test_they_belong_to_the_groups(self):
        for rows, most in drawn(11, 200, 6):
            told = [least_form(tuple(rows[number] for number in group)) for group in groups(rows, most)]
            self.assertEqual(forms_of(rows, most), tuple(told))


class ThePromise(unittest.TestCase):
    def test_each_row_comes_back_from_just_one_form(self):
        for rows, most in drawn(3, 200, 8):
            forms = forms_of(rows + rows, most)
            self.assertTrue(all(many_gaps(form) <= most for form in forms))
            for row in rows:
                writers = [form for form in forms if writes(form, row)]
                self.assertEqual(len(writers), 1, (rows, most, row))
                self.assertEqual(written(writers[0], gaps_of(writers[0], row)), " ".join(row))

    def test_no_fewer_forms_do_so(self):
        for rows, most in drawn(4, 150, 5):
            rows = tuple(row[:3] for row in rows)
            known = unlike(rows)
            tried = set(itertools.chain.from_iterable(forms_that_write(row, most) for row in known))
            # Every form that writes some row at all is among those tried, as the numbers that it writes.
            reach = {frozenset(n for n, row in enumerate(known) if writes(form, row)) for form in tried}
            for fewer in range(len(forms_of(rows, most))):
                for chosen in itertools.combinations(reach, fewer):
                    once = sorted(itertools.chain.from_iterable(chosen)) == list(range(len(known)))
                    self.assertFalse(once, (rows, most, chosen))


if __name__ == "__main__":
    unittest.main()
