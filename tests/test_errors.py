"""Refusals: fourteen classes, each straight under LoomError, with their fields."""

import unittest

from logloom import errors
from logloom.errors import (
    Clash, Ended, LoomError, NoFit, NoForm, NoGap, NoParting, NoQuestion, NoRow,
    Spoiled, TooGreat, TooMany, TooWide, Unknown, Untaught,
)

WITH_AT = (NoRow, NoFit, NoGap, NoForm, NoQuestion)
WITH_NUMBER = (TooMany, TooWide, TooGreat, Unknown)
WITH_RUN = (NoParting, Clash)
PLAIN = (Ended, Spoiled, Untaught)
REFUSALS = WITH_AT + WITH_NUMBER + WITH_RUN + PLAIN


def made(refusal):
    if refusal in PLAIN:
        return refusal()
    return refusal((1, 0)) if refusal in WITH_RUN else refusal(7)


class Refusals(unittest.TestCase):
    def test_there_are_fourteen_beside_the_one_above_them(self):
        classes = {c for c in vars(errors).values() if isinstance(c, type)}
        self.assertEqual(len(REFUSALS), 14)
        self.assertEqual(classes, set(REFUSALS) | {LoomError})

    def test_any_refusal_is_a_value_error(self):
        self.assertEqual(LoomError.__bases__, (ValueError,))

    def test_each_stands_under_loom_error_alone(self):
        for refusal in REFUSALS:
            self.assertEqual(refusal.__bases__, (LoomError,), refusal)

    def test_each_object_is_of_none_of_the_others(self):
        for refusal in REFUSALS:
            error = made(refusal)
            kin = [other for other in REFUSALS if isinstance(error, other)]
            self.assertEqual(kin, [refusal])
            self.assertIsInstance(error, LoomError)
            self.assertIsInstance(error, ValueError)

    def test_each_has_its_field(self):
        for refusal in WITH_AT:
            self.assertEqual(made(refusal).at, 7, refusal)
        for refusal in WITH_NUMBER:
            self.assertEqual(made(refusal).number, 7, refusal)
        for refusal in WITH_RUN:
            self.assertEqual(made(refusal).run, (1, 0), refusal)

    def test_each_has_no_other_field(self):
        fields = [("at", WITH_AT), ("number", WITH_NUMBER), ("run", WITH_RUN)]
        for field, those in fields:
            for refusal in REFUSALS:
                self.assertEqual(hasattr(made(refusal), field), refusal in those, (field, refusal))

    def test_each_can_be_raised_and_taken_by_all_its_names(self):
        for refusal in REFUSALS:
            for name in (refusal, LoomError, ValueError):
                with self.assertRaises(name):
                    raise made(refusal)


if __name__ == "__main__":
    unittest.main()
