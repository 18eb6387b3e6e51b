"""What board holds is the program's own affair: these tests speak of its own names, not of the document's."""

import random
import unittest

from vesselhall import board as module

NAMES = ("settled", "balanced")
ABSENT = [name for name in NAMES if not hasattr(module, name)]


def units(size):
    return [[1 if place == own else 0 for place in range(size)] for own in range(size)]


def worth(row, numbers):
    return sum([one * two for one, two in zip(row, numbers)])


def come_to(rows, times):
    return [sum([many * row[place] for many, row in zip(times, rows)]) for place in range(len(rows[0]))]


def all_rows():
    """Rows with the two kinds of wants that the package asks for: a unit row for each place, or one row of ones."""
    chance = random.Random(31)
    told = []
    for trial in range(600):
        height, width, most = chance.randint(1, 8), chance.randint(1, 8), chance.choice((1, 3, 3, 10 ** 6))
        if chance.randrange(2) == 0:
            # So that numbers above 0 by which the rows are worth 0 are not too rare.
            height = chance.randint(1, max(1, width - 2))
        rows = [[chance.choice((0, chance.randint(-most, most))) for place in range(width)] for row in range(height)]
        told.append((rows, units(width)))
        told.append((rows, [[1] * width]))
    return told


@unittest.skipIf(ABSENT, f"board holds other names: {ABSENT}")
class Board(unittest.TestCase):
    def check_numbers(self, rows, wants, numbers):
        self.assertEqual([type(number) for number in numbers], [int] * len(rows[0]))
        self.assertGreaterEqual(min(numbers), 0)
        self.assertGreaterEqual(min([worth(want, numbers) for want in wants]), 1)

    def check_times(self, rows, wants, times):
        self.assertEqual([type(number) for number in times], [int] * len(rows))
        there = come_to(rows, times)
        if len(wants) > 1:
            self.assertGreaterEqual(min(there), 0)
            self.assertGreater(max(there), 0)
        else:
            # No less than one row of ones some times, with a single place too.
            self.assertGreater(min(there), 0)

    def test_settled(self):
        cases = {}
        for rows, wants in all_rows():
            with self.subTest(rows=rows, wants=wants):
                case, numbers = module.settled(rows, wants)
                cases[case, len(wants) > 1] = cases.get((case, len(wants) > 1), 0) + 1
                if case:
                    self.check_numbers(rows, wants, numbers)
                    self.assertLessEqual(max([worth(row, numbers) for row in rows]), 0)
                else:
                    self.check_times(rows, wants, numbers)
                    self.assertGreaterEqual(min(numbers), 0)
        self.assertEqual(len(cases), 4)
        self.assertGreater(min(cases.values()), 50)

    def test_balanced(self):
        cases = {}
        for rows, wants in all_rows():
            with self.subTest(rows=rows, wants=wants):
                case, numbers = module.balanced(rows, wants)
                cases[case, len(wants) > 1] = cases.get((case, len(wants) > 1), 0) + 1
                if case:
                    self.check_numbers(rows, wants, numbers)
                    self.assertEqual([worth(row, numbers) for row in rows], [0] * len(rows))
                else:
                    self.check_times(rows, wants, numbers)
        self.assertEqual(len(cases), 4)
        self.assertGreater(min(cases.values()), 50)

    def test_rows_and_wants_stay(self):
        for rows, wants in all_rows()[:50]:
            for call in (module.settled, module.balanced):
                with self.subTest(rows=rows, wants=wants, call=call):
                    ahead = repr((rows, wants))
                    first = call(rows, wants)
                    held = (first[0], list(first[1]))
                    first[1].clear()
                    self.assertEqual(repr((rows, wants)), ahead)
                    self.assertEqual(call(rows, wants), held)


if __name__ == "__main__":
    unittest.main()
