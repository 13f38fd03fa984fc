"""errors: each refusal is a class of its own, straight under TacticError, and keeps its place."""

import unittest

from tacticwright import errors

NAMES = ["NoTerm", "NoBook", "NoWorld", "NoReason", "NoTactic", "TooLong", "TooGreat", "Stuck", "NoWords"]


class TestErrors(unittest.TestCase):

    def test_tactic_error_is_straight_under_value_error(self):
        self.assertEqual(errors.TacticError.__bases__, (ValueError,))

    def test_each_is_straight_under_tactic_error(self):
        for name in NAMES:
            self.assertEqual(getattr(errors, name).__bases__, (errors.TacticError,), name)

    def test_none_is_under_another_one(self):
        for name in NAMES:
            for other in NAMES:
                under = issubclass(getattr(errors, name), getattr(errors, other))
                self.assertEqual(under, name == other, (name, other))

    def test_place_is_none_where_none_is_handed_in(self):
        for name in NAMES + ["TacticError"]:
            self.assertIsNone(getattr(errors, name)().place, name)

    def test_place_is_as_handed_in(self):
        for name in NAMES + ["TacticError"]:
            for place in (0, 7, (), (0, 1), None):
                self.assertEqual(getattr(errors, name)(place).place, place)
                self.assertEqual(getattr(errors, name)(place=place).place, place)

    def test_each_can_be_raised_and_taken(self):
        for name in NAMES:
            with self.assertRaises(errors.TacticError) as taken:
                raise getattr(errors, name)((1, 2))
            self.assertEqual(taken.exception.place, (1, 2))
            with self.assertRaises(ValueError):
                raise getattr(errors, name)()


if __name__ == "__main__":
    unittest.main()
