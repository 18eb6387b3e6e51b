"""What rows holds is the program's own affair: these tests speak of its own names, not of the document's."""

import random
import unittest
from fractions import Fraction
from math import gcd

from vesselhall import rows as module

NAMES = ("crossed", "unit_rows", "opposites", "common_divisor", "lowest", "free_places", "nought_makers")
ABSENT = [name for name in NAMES if not hasattr(module, name)]

ROWS = (
    [[0]], [[1]], [[0], [0]], [[2], [-3]], [[0], [3], [1]], [[0, 0], [1, 2], [2, 4], [0, 1]],
    [[1, 0], [0, 1], [1, 1]], [[1, 1], [2, 2], [3, 3]], [[0, 1], [1, 0], [0, 1]], [[3, 0, 0], [0, 0, 2], [3, 0, 2]],
    [[-2, -1, 3], [2, 1, -3], [0, 1, 0], [1, 0, 0]], [[1, 2, 3], [4, 5, 6], [7, 8, 9]], [[6, 10, 15]],
    [[1, 0, 0, 0, 0], [0, 0, 0, 0, 1], [0, 0, 1, 0, 0]], [[10 ** 39, 1], [1, 10 ** 39], [10 ** 39, 10 ** 39]],
)


def rank(rows):
    """The count of rows that stand free, by quotients."""
    rest = [[Fraction(number) for number in row] for row in rows]
    told = 0
    for place in range(len(rows[0]) if rows else 0):
        heads = [row for row in rest if row[place] != 0]
        if heads:
            told += 1
            head = heads[0]
            others = [row for row in rest if row is not head]
            rest = [[one - row[place] / head[place] * two for one, two in zip(row, head)] for row in others]
    return told


def come_to(rows, numbers):
    return [sum([number * row[place] for number, row in zip(numbers, rows)]) for place in range(len(rows[0]))]


def all_rows():
    chance = random.Random(19)
    told = list(ROWS)
    for trial in range(300):
        height, width = chance.randint(1, 8), chance.randint(1, 5)
        told.append([[chance.choice((0, 0, chance.randint(-3, 3))) for place in range(width)] for row in range(height)])
    return told


@unittest.skipIf(ABSENT, f"rows holds other names: {ABSENT}")
class Rows(unittest.TestCase):
    def test_crossed(self):
        self.assertEqual(module.crossed([[1, 2, 3], [4, 5, 6]]), [[1, 4], [2, 5], [3, 6]])
        self.assertEqual(module.crossed([(7,)]), [[7]])

    def test_unit_rows(self):
        self.assertEqual(module.unit_rows(1), [[1]])
        self.assertEqual(module.unit_rows(3), [[1, 0, 0], [0, 1, 0], [0, 0, 1]])

    def test_opposites(self):
        self.assertEqual(module.opposites([[1, -2, 0], (-3, 0, 4)]), [[-1, 2, 0], [3, 0, -4]])

    def test_common_divisor(self):
        for row, told in (([4, -6], 2), ([0, -5, 10], 5), ([6, 10, 15], 1), ([0, 0], 0), ([-7], 7)):
            with self.subTest(row):
                self.assertEqual(module.common_divisor(row), told)

    def test_lowest(self):
        for row, told in (
            ([2, 4], [1, 2]), ([-2, 4], [1, -2]), ([0, -6, 9], [0, 2, -3]), ([0, 0], [0, 0]), ([-7], [1]),
            ([5, 0], [1, 0]),
            ([3, 5], [3, 5]), ([6, 10, 15], [6, 10, 15]), ([-10 ** 40, 10 ** 39], [10, -1]),
        ):
            with self.subTest(row):
                own = list(row)
                self.assertEqual(module.lowest(own), told)
                self.assertEqual(own, row)
                self.assertIsNot(module.lowest(own), own)

    def test_free_places(self):
        for rows in all_rows():
            with self.subTest(rows):
                told = module.free_places(rows)
                asked = [place for place in range(len(rows)) if rank(rows[:place + 1]) > rank(rows[:place])]
                self.assertEqual(told, asked)

    def test_nought_makers(self):
        for rows in all_rows():
            with self.subTest(rows):
                told = module.nought_makers(rows)
                self.assertEqual(len(told), len(rows) - rank(rows))
                self.assertEqual(rank(told), len(told))
                for numbers in told:
                    self.assertEqual(len(numbers), len(rows))
                    self.assertEqual(set(come_to(rows, numbers)), {0})
                    self.assertEqual(gcd(*numbers), 1)
                    self.assertGreater(next(number for number in numbers if number != 0), 0)

    def test_rows_stay_and_lists_are_new(self):
        for rows in ROWS:
            for call in (module.free_places, module.nought_makers, module.crossed):
                with self.subTest(rows=rows, call=call):
                    own = [list(row) for row in rows]
                    first = call(own)
                    self.assertEqual(own, rows)
                    kept = [list(part) if isinstance(part, list) else part for part in first]
                    for part in list(first):
                        if isinstance(part, list):
                            part.clear()
                    first.clear()
                    self.assertEqual(own, rows)
                    self.assertEqual(call(own), kept)


if __name__ == "__main__":
    unittest.main()
