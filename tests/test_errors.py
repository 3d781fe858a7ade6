"""Point 22: the errors."""

import unittest

from roundtold.errors import BadText, CanNot, NoPlace, TooMuch, Unfit
from tests.helper import Case


class Errors(Case):
    def test_each_is_directly_under_just_one_builtin_class(self):
        self.assertEqual(NoPlace.__bases__, (LookupError,))
        for error in (BadText, CanNot, TooMuch, Unfit):
            self.assertEqual(error.__bases__, (ValueError,))

    def test_values_are_taken_by_place_and_by_name_and_kept(self):
        for value in (0, -3, 10 ** 30):
            for error in (NoPlace(value), NoPlace(place=value)):
                self.same(error.place, value)
                self.same(vars(error), {"place": value})
            for error in (BadText(value), BadText(line=value)):
                self.same(error.line, value)
                self.same(vars(error), {"line": value})

    def test_the_others_take_and_keep_nothing(self):
        for error in (CanNot, TooMuch, Unfit):
            self.assertEqual(vars(error()), {})

    def test_values_are_wanted(self):
        for error in (NoPlace, BadText):
            with self.assertRaises(TypeError):
                error()

    def test_each_is_caught_by_its_own_name_alone(self):
        errors = (NoPlace(1), BadText(1), CanNot(), TooMuch(), Unfit())
        for raised in errors:
            for other in errors:
                self.assertEqual(isinstance(raised, other.__class__), raised is other)


if __name__ == "__main__":
    unittest.main()
