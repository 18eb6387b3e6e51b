"""What powers holds is the program's own affair: these tests speak of its own names, not of the document's."""

import random
import unittest
from fractions import Fraction
from itertools import combinations
from math import gcd

from vesselhall import powers as module

NAMES = ("apart", "multiplied")
ABSENT = [name for name in NAMES if not hasattr(module, name)]

POWERS = (
    [], [(1, 5)], [(7, 0)], [(2, 1)], [(2, 1), (2, -1)], [(4, 1), (2, -2)], [(4, 3), (8, -2)], [(4, 3), (8, -1)],
    [(6, 1), (2, -1), (3, -1)], [(6, 1), (10, 1), (15, 1), (30, -2)], [(6, 1), (10, 1), (15, 1), (30, -1)],
    [(12, 2), (18, -1), (8, -1)], [(2, 3), (3, 2), (5, -1), (7, -2)], [(9, 1), (3, 1), (27, -1)],
    [(2 ** 90 * 3, 1), (2 * 3 ** 60, -1)], [(10 ** 29, 3), (2 ** 29, -3), (5 ** 29, -3)],
)


def drawn():
    chance = random.Random(29)
    told = list(POWERS)
    for trial in range(400):
        numbers = (2, 3, 4, 6, 12, 30, 49, 1000, 10 ** 29 + 1, 7 ** 35)
        powers = [(chance.choice(numbers) * chance.choice((1, 2, 9)), chance.randint(-6, 6)) for power in range(5)]
        if trial % 2 == 0:
            # The same once more, divided by and in other pieces: the product is 1.
            powers = powers + [(2, -1), (3, -2), (18, 1)] + [(number * number, -often) for number, often in powers]
            powers = powers + [(number, often) for number, often in powers[:5]]
        told.append(powers)
    return told


def product(powers):
    total = Fraction(1)
    for number, often in powers:
        total *= Fraction(number) ** often
    return total


@unittest.skipIf(ABSENT, f"the module holds other names than {ABSENT}")
class Powers(unittest.TestCase):
    def test_apart_has_the_same_product_of_numbers_without_common_divisors(self):
        met = {True: 0, False: 0}
        for powers in drawn():
            with self.subTest(powers=powers):
                told = module.apart(powers)
                self.assertEqual(product(told), product(powers))
                self.assertTrue(all([number > 1 and often != 0 for number, often in told]))
                self.assertTrue(all([gcd(one[0], two[0]) == 1 for one, two in combinations(told, 2)]))
                self.assertEqual(told == [], product(powers) == 1)
                met[told == []] += 1
        self.assertGreater(min(met.values()), 100)

    def test_great_powers_are_not_multiplied_out(self):
        number = 10 ** 400 + 7
        often = 10 ** 50
        self.assertEqual(module.apart([(number * 6, often), (number, -often), (6, -often)]), [])
        self.assertNotEqual(module.apart([(number * 6, often), (number, -often), (6, 1 - often)]), [])
        self.assertEqual(module.apart([(2 ** 1000, often), (2, -1000 * often)]), [])

    def test_multiplied_is_the_product_in_lowest_terms(self):
        for powers in drawn():
            with self.subTest(powers=powers):
                total = product(powers)
                self.assertEqual(module.multiplied(powers), (total.numerator, total.denominator))

    def test_what_is_handed_in_stays_as_it_is(self):
        powers = [(12, 2), (18, -1), (8, -1)]
        module.apart(powers)
        module.multiplied(powers)
        self.assertEqual(powers, [(12, 2), (18, -1), (8, -1)])


if __name__ == "__main__":
    unittest.main()
