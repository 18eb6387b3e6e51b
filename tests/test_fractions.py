import unittest
from fractions import Fraction
from math import gcd

from vesselhall.errors import NoFraction
from vesselhall.fractions import before, fraction, minus, over, plus, times

# Forty figures each; PRIME is one, so that it divides little else.
GREAT = 6 * 10 ** 39 + 12
ODD = 3 ** 83
PRIME = 10 ** 39 + 3

NUMBERS = (
    0, 1, -1, 2, -2, 3, -3, 4, 6, -8, 9, 12, -15, 100, -360,
    GREAT, -GREAT, ODD, -ODD, PRIME, -PRIME, GREAT // 2, -(GREAT // 3),
)

FRACTIONS = (
    (0, 1), (1, 1), (-1, 1), (1, 2), (-1, 2), (1, 3), (2, 3), (-5, 6), (7, 4), (-9, 4), (12, 1), (-30, 1),
    (PRIME, 1), (-PRIME, 2), (1, PRIME), (-1, PRIME), (ODD, 10 ** 39 + 1), (-(10 ** 39 + 1), ODD),
    (10 ** 40 - 1, 10 ** 39), (1, 10 ** 40 - 1),
)


def pair(value):
    return (value.numerator, value.denominator)


def as_value(told):
    return Fraction(told[0], told[1])


class FractionTest(unittest.TestCase):
    def check_fraction(self, told):
        self.assertIs(type(told), tuple)
        self.assertEqual(len(told), 2)
        self.assertIs(type(told[0]), int)
        self.assertIs(type(told[1]), int)
        self.assertGreaterEqual(told[1], 1)
        self.assertEqual(gcd(told[0], told[1]), 1)


class Making(FractionTest):
    def test_small_ones(self):
        rows = (
            (1, 2, (1, 2)), (2, 4, (1, 2)), (6, 4, (3, 2)), (4, 2, (2, 1)), (7, 7, (1, 1)), (5, 1, (5, 1)),
            (-1, 2, (-1, 2)), (1, -2, (-1, 2)), (-1, -2, (1, 2)), (-6, 4, (-3, 2)), (6, -4, (-3, 2)),
            (-6, -4, (3, 2)), (-4, 2, (-2, 1)), (4, -2, (-2, 1)), (3, -1, (-3, 1)), (-3, -3, (1, 1)),
            (35, 21, (5, 3)), (17, 51, (1, 3)), (8, 27, (8, 27)),
        )
        for top, bottom, told in rows:
            with self.subTest(top=top, bottom=bottom):
                self.assertEqual(fraction(top, bottom), told)
                self.check_fraction(fraction(top, bottom))

    def test_a_first_number_of_0(self):
        for bottom in (1, -1, 2, -2, 9, GREAT, -GREAT):
            with self.subTest(bottom):
                self.assertEqual(fraction(0, bottom), (0, 1))
                self.check_fraction(fraction(0, bottom))

    def test_forty_figures(self):
        self.assertEqual(len(str(GREAT)), 40)
        self.assertEqual(len(str(ODD)), 40)
        self.assertEqual(len(str(PRIME)), 40)
        self.assertEqual(fraction(GREAT, 6), (10 ** 39 + 2, 1))
        self.assertEqual(fraction(GREAT, -GREAT), (-1, 1))
        self.assertEqual(fraction(GREAT - 6, GREAT), (10 ** 39 + 1, 10 ** 39 + 2))
        self.assertEqual(fraction(-GREAT, 12), (-5 * 10 ** 38 - 1, 1))
        self.assertEqual(fraction(PRIME, PRIME - 1), (PRIME, PRIME - 1))
        self.assertEqual(fraction(3 ** 83, -(3 ** 82)), (-3, 1))

    def test_all_pairs(self):
        for top in NUMBERS:
            for bottom in NUMBERS:
                if bottom == 0:
                    continue
                with self.subTest(top=top, bottom=bottom):
                    told = fraction(top, bottom)
                    self.check_fraction(told)
                    self.assertEqual(told, pair(Fraction(top, bottom)))

    def test_lowest_terms_stay(self):
        for told in FRACTIONS:
            with self.subTest(told):
                self.assertEqual(fraction(told[0], told[1]), told)

    def test_a_second_number_of_0_is_refused(self):
        for top in NUMBERS:
            with self.subTest(top):
                with self.assertRaises(NoFraction):
                    fraction(top, 0)

    def test_told_numbers_of_four_thousand_figures(self):
        top = 10 ** 3999 + 1
        bottom = 10 ** 3998 + 7
        self.assertEqual(fraction(top, bottom), pair(Fraction(top, bottom)))
        self.assertEqual(fraction(top * 2, -6), pair(Fraction(-top, 3)))


class Reckoning(FractionTest):
    def check_all(self, reckon, oracle):
        for one in FRACTIONS:
            for two in FRACTIONS:
                with self.subTest(one=one, two=two):
                    told = reckon(one, two)
                    self.check_fraction(told)
                    self.assertEqual(told, pair(oracle(as_value(one), as_value(two))))
                    self.assertEqual(reckon(one, two), told)

    def test_plus_small(self):
        self.assertEqual(plus((1, 2), (1, 3)), (5, 6))
        self.assertEqual(plus((1, 6), (1, 3)), (1, 2))
        self.assertEqual(plus((1, 2), (-1, 2)), (0, 1))
        self.assertEqual(plus((-1, 4), (-3, 4)), (-1, 1))
        self.assertEqual(plus((0, 1), (0, 1)), (0, 1))
        self.assertEqual(plus((0, 1), (-2, 7)), (-2, 7))

    def test_plus(self):
        self.check_all(plus, lambda one, two: one + two)

    def test_minus_small(self):
        self.assertEqual(minus((1, 2), (1, 3)), (1, 6))
        self.assertEqual(minus((1, 3), (1, 2)), (-1, 6))
        self.assertEqual(minus((5, 6), (1, 3)), (1, 2))
        self.assertEqual(minus((7, 4), (7, 4)), (0, 1))
        self.assertEqual(minus((0, 1), (7, 4)), (-7, 4))
        self.assertEqual(minus((0, 1), (-7, 4)), (7, 4))

    def test_minus(self):
        self.check_all(minus, lambda one, two: one - two)

    def test_times_small(self):
        self.assertEqual(times((2, 3), (3, 4)), (1, 2))
        self.assertEqual(times((-2, 3), (3, 2)), (-1, 1))
        self.assertEqual(times((-2, 3), (-3, 4)), (1, 2))
        self.assertEqual(times((0, 1), (-3, 4)), (0, 1))

    def test_times(self):
        self.check_all(times, lambda one, two: one * two)

    def test_over_small(self):
        self.assertEqual(over((1, 2), (3, 4)), (2, 3))
        self.assertEqual(over((3, 4), (1, 2)), (3, 2))
        self.assertEqual(over((1, 2), (-3, 4)), (-2, 3))
        self.assertEqual(over((-1, 2), (-1, 2)), (1, 1))
        self.assertEqual(over((0, 1), (-3, 4)), (0, 1))

    def test_over(self):
        for one in FRACTIONS:
            for two in FRACTIONS:
                if two == (0, 1):
                    continue
                with self.subTest(one=one, two=two):
                    told = over(one, two)
                    self.check_fraction(told)
                    self.assertEqual(told, pair(as_value(one) / as_value(two)))
                    self.assertEqual(over(one, two), told)

    def test_over_0_is_refused(self):
        for one in FRACTIONS:
            with self.subTest(one):
                with self.assertRaises(NoFraction):
                    over(one, (0, 1))

    def test_told_fractions_are_handed_in_again(self):
        one = fraction(ODD, PRIME)
        for number in range(5):
            one = times(one, one)
        # The numbers have above a thousand figures now, and what is told of two such twice as many.
        self.assertEqual(one, (ODD ** 32, PRIME ** 32))
        two = plus(one, (1, 3))
        self.check_fraction(two)
        self.assertEqual(minus(two, one), (1, 3))
        self.assertEqual(over(times(one, two), two), one)
        self.assertIs(before(one, two), True)
        self.assertIs(before(two, one), False)


class Before(FractionTest):
    def test_both_ways_about(self):
        rows = (
            ((1, 3), (1, 2)), ((-1, 2), (-1, 3)), ((-1, 2), (1, 3)), ((-1, 2), (0, 1)), ((0, 1), (1, 2)),
            ((2, 3), (3, 4)), ((-3, 4), (-2, 3)), ((1, 1), (2, 1)), ((-2, 1), (-1, 1)), ((9, 10), (1, 1)),
            ((-5, 1), (1, 5)), ((-1, 5), (5, 1)),
        )
        for less, more in rows:
            with self.subTest(less=less, more=more):
                self.assertIs(before(less, more), True)
                self.assertIs(before(more, less), False)

    def test_itself(self):
        for one in FRACTIONS:
            with self.subTest(one):
                self.assertIs(before(one, one), False)

    def test_great_ones_close_together(self):
        near = 10 ** 39
        rows = (
            ((near, near + 1), (near + 1, near + 2)),
            ((-near - 1, near + 2), (-near, near + 1)),
            ((1, near + 1), (1, near)),
            ((near, 1), (near + 1, 1)),
            ((-near - 1, 1), (-near, 1)),
            ((near, 3), (near + 1, 3)),
        )
        for less, more in rows:
            with self.subTest(less=less, more=more):
                self.assertIs(before(less, more), True)
                self.assertIs(before(more, less), False)

    def test_all_pairs(self):
        for one in FRACTIONS:
            for two in FRACTIONS:
                with self.subTest(one=one, two=two):
                    self.assertIs(before(one, two), as_value(one) < as_value(two))


if __name__ == "__main__":
    unittest.main()
