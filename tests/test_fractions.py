"""Point 1: fractions, and the refusals of made."""

import fractions
import math
import unittest

from fairknife.errors import BadFraction
from fairknife.fractions import below, is_fraction, made, minus, over, plus, ranked, times
from tests.helpers import no_fractions, no_whole_numbers

HUGE = 10 ** 6000
LARGE = [(HUGE, 1), (1, HUGE), (HUGE, HUGE + 1), (HUGE + 1, HUGE), (7 ** 2000, 11 ** 2000)]
SMALL = [(0, 1), (1, 1), (2, 1), (7, 1), (1, 2), (1, 3), (2, 3), (3, 2), (5, 6), (7, 12), (999, 1000)]
ALL = SMALL + LARGE


def pair(number):
    return (number.numerator, number.denominator)


def number(one):
    return fractions.Fraction(*one)


class FractionCase(unittest.TestCase):
    def assert_fraction(self, answer, told):
        self.assertIs(type(answer), tuple)
        self.assertEqual([type(part) for part in answer], [int, int])
        # Not by assertEqual: Python won't write numbers of thousands of figures.
        self.assertTrue(answer == told)


class Made(FractionCase):
    def test_lowest_terms(self):
        for a, b, told in [(1, 2, (1, 2)), (2, 4, (1, 2)), (6, 4, (3, 2)), (12, 18, (2, 3)),
                           (4, 2, (2, 1)), (7, 7, (1, 1)), (1, 1, (1, 1)), (5, 1, (5, 1)),
                           (1, 1000, (1, 1000)), (1000, 1000, (1, 1)), (17, 51, (1, 3))]:
            with self.subTest(a=a, b=b):
                self.assert_fraction(made(a, b), told)

    def test_nought(self):
        for b in [1, 2, 3, 1000, HUGE]:
            self.assert_fraction(made(0, b), (0, 1))

    def test_every_small_one(self):
        for a in range(40):
            for b in range(1, 40):
                common = math.gcd(a, b)
                self.assert_fraction(made(a, b), (a // common, b // common))

    def test_very_large_ones(self):
        self.assert_fraction(made(HUGE, HUGE), (1, 1))
        self.assert_fraction(made(3 * HUGE, 6 * HUGE), (1, 2))
        self.assert_fraction(made(HUGE, 1), (HUGE, 1))
        self.assert_fraction(made(1, HUGE), (1, HUGE))
        self.assert_fraction(made(HUGE * (HUGE + 1), HUGE * HUGE), (HUGE + 1, HUGE))
        self.assert_fraction(made(6 ** 3000, 10 ** 3000), (3 ** 3000, 5 ** 3000))

    def test_first_number_below_0(self):
        for a in [-1, -2, -1000, -HUGE]:
            for b in [1, 2, HUGE]:
                self.assertRaises(BadFraction, made, a, b)

    def test_second_number_below_1(self):
        for b in [0, -1, -2, -HUGE]:
            for a in [0, 1, 2, HUGE, -1]:
                self.assertRaises(BadFraction, made, a, b)

    def test_what_is_no_whole_number(self):
        for place, thing in enumerate(no_whole_numbers()):
            with self.subTest(place=place, kind=type(thing)):
                self.assertRaises(BadFraction, made, thing, 1)
                self.assertRaises(BadFraction, made, 1, thing)
                self.assertRaises(BadFraction, made, thing, thing)
                self.assertRaises(BadFraction, made, thing, 0)
                self.assertRaises(BadFraction, made, -1, thing)

    def test_what_is_refused_is_not_changed(self):
        things = [1, 2]
        self.assertRaises(BadFraction, made, things, things)
        self.assertEqual(things, [1, 2])


class Told(unittest.TestCase):
    def test_fractions(self):
        for one in ALL:
            self.assertIs(is_fraction(one), True)

    def test_what_is_no_fraction(self):
        for place, thing in enumerate(no_fractions()):
            with self.subTest(place=place, kind=type(thing)):
                self.assertIs(is_fraction(thing), False)


class Reckoning(FractionCase):
    def test_plus(self):
        self.assert_fraction(plus((1, 2), (1, 3)), (5, 6))
        self.assert_fraction(plus((1, 6), (1, 3)), (1, 2))
        self.assert_fraction(plus((1, 2), (1, 2)), (1, 1))
        self.assert_fraction(plus((0, 1), (3, 4)), (3, 4))
        self.assert_fraction(plus((3, 4), (0, 1)), (3, 4))
        self.assert_fraction(plus((0, 1), (0, 1)), (0, 1))
        self.assert_fraction(plus((1, HUGE), (HUGE - 1, HUGE)), (1, 1))

    def test_minus(self):
        self.assert_fraction(minus((1, 2), (1, 3)), (1, 6))
        self.assert_fraction(minus((5, 6), (1, 3)), (1, 2))
        self.assert_fraction(minus((3, 4), (0, 1)), (3, 4))
        self.assert_fraction(minus((0, 1), (0, 1)), (0, 1))
        self.assert_fraction(minus((1, 1), (1, HUGE)), (HUGE - 1, HUGE))
        for one in ALL:
            self.assert_fraction(minus(one, one), (0, 1))

    def test_times(self):
        self.assert_fraction(times((2, 3), (3, 4)), (1, 2))
        self.assert_fraction(times((2, 3), (3, 2)), (1, 1))
        self.assert_fraction(times((2, 3), (2, 3)), (4, 9))
        self.assert_fraction(times((0, 1), (3, 4)), (0, 1))
        self.assert_fraction(times((3, 4), (0, 1)), (0, 1))
        self.assert_fraction(times((HUGE, 1), (1, HUGE)), (1, 1))

    def test_over(self):
        self.assert_fraction(over((1, 2), (3, 4)), (2, 3))
        self.assert_fraction(over((1, 2), (2, 1)), (1, 4))
        self.assert_fraction(over((0, 1), (3, 4)), (0, 1))
        self.assert_fraction(over((HUGE, 1), (1, HUGE)), (HUGE * HUGE, 1))
        for one in ALL[1:]:
            self.assert_fraction(over(one, one), (1, 1))

    def test_all_pairs(self):
        for one in ALL:
            for other in ALL:
                x = number(one)
                y = number(other)
                self.assert_fraction(plus(one, other), pair(x + y))
                self.assert_fraction(times(one, other), pair(x * y))
                if x >= y:
                    self.assert_fraction(minus(one, other), pair(x - y))
                if y > 0:
                    self.assert_fraction(over(one, other), pair(x / y))

    def test_below(self):
        self.assertIs(below((1, 3), (1, 2)), True)
        self.assertIs(below((1, 2), (1, 3)), False)
        self.assertIs(below((2, 3), (3, 4)), True)
        self.assertIs(below((0, 1), (1, HUGE)), True)
        self.assertIs(below((1, HUGE), (0, 1)), False)
        self.assertIs(below((HUGE - 1, HUGE), (HUGE, HUGE + 1)), True)
        self.assertIs(below((HUGE, HUGE + 1), (HUGE - 1, HUGE)), False)

    def test_below_of_all_pairs(self):
        for one in ALL:
            self.assertIs(below(one, one), False)
            for other in ALL:
                self.assertIs(below(one, other), number(one) < number(other))


class Ranked(unittest.TestCase):
    def test_from_least_to_greatest(self):
        self.assertEqual(ranked([]), [])
        self.assertEqual(ranked([(1, 2)]), [0])
        self.assertEqual(ranked([(1, 2), (1, 3), (2, 3)]), [1, 0, 2])
        self.assertEqual(ranked([(9, 10), (1, 1), (0, 1), (8, 9)]), [2, 3, 0, 1])

    def test_of_like_ones_the_least_place_first(self):
        self.assertEqual(ranked([(1, 2), (1, 3), (1, 2), (1, 3), (1, 2)]), [1, 3, 0, 2, 4])
