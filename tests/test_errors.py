"""The classes of the refusals."""

import unittest

from fairknife import errors


class Errors(unittest.TestCase):
    def test_cake_error_is_a_value_error(self):
        self.assertEqual(errors.CakeError.__bases__, (ValueError,))

    def test_each_stands_straight_under_cake_error(self):
        for name in ["BadFraction", "BadTaste", "BadPiece", "BadTakers", "TooLittle", "BadText"]:
            with self.subTest(name):
                self.assertEqual(getattr(errors, name).__bases__, (errors.CakeError,))

    def test_they_are_classes_apart(self):
        classes = {errors.CakeError, errors.BadFraction, errors.BadTaste, errors.BadPiece,
                   errors.BadTakers, errors.TooLittle, errors.BadText}
        self.assertEqual(len(classes), 7)
