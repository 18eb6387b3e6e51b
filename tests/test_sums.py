import random
import unittest
from fractions import Fraction
from math import gcd

from vesselhall.sums import free, kept, rounds
from vesselhall.ties import first_astray
from vesselhall.vessels import change, heaps, made
from vesselhall.walks import comings

ONE = (1, 1)
LONG = (10 ** 29 + 1, 10 ** 29)
LONGER = (10 ** 30 - 1, 10 ** 29 + 7)
WORDS = ("a", "b", "c", "d", "e")


def vessel_of(size, pairs):
    """A vessel of this many stuffs with these pairs (from, to), each heap a text of figures."""
    paces = (ONE, LONG, (7, 3), LONGER)
    rows = []
    for number, (one, two) in enumerate(pairs):
        rows.append([[int(sign) for sign in one], [int(sign) for sign in two], paces[number % 4]])
    return made(list(WORDS[:size]), rows)


def there_and_back(pairs):
    return [pair for one, two in pairs for pair in ((one, two), (two, one))]


LOSS = vessel_of(1, [("1", "0")])
GAIN = vessel_of(1, [("0", "1")])
DOUBLING = vessel_of(1, [("1", "2")])
HALVING = vessel_of(1, [("3", "1")])
COMING_AND_GOING = vessel_of(1, [("0", "1"), ("3", "0")])
UP_ALONE = vessel_of(1, [("0", "1"), ("0", "3"), ("1", "3")])
SWAP = vessel_of(2, [("10", "01"), ("01", "10")])
ONE_WAY = vessel_of(2, [("10", "01")])
AWAY = vessel_of(2, [("10", "01"), ("01", "00")])
PAIR_OUT = vessel_of(2, [("11", "00")])
TWO_FOR_THREE = vessel_of(2, [("30", "02")])
BESIDE = vessel_of(2, [("10", "11")])
SPREAD = vessel_of(2, [("11", "02"), ("01", "10")])
HUNT = vessel_of(2, [("10", "20"), ("11", "02"), ("01", "00")])
FLASH = vessel_of(2, [("00", "10"), ("21", "30"), ("10", "01"), ("10", "00")])
HALL = vessel_of(3, [("210", "003"), ("003", "210")])
RING = vessel_of(3, [("100", "010"), ("010", "001"), ("001", "100")])
SAME_CHANGES = vessel_of(3, [("100", "010"), ("101", "011"), ("200", "020"), ("010", "100")])
FOUR_RING = vessel_of(4, [("1000", "0100"), ("0100", "0010"), ("0010", "0001"), ("0001", "1000")])
HELPER = vessel_of(4, [("1100", "0010"), ("0010", "1100"), ("0010", "1001")])
SHRINKING = vessel_of(5, [("30000", "02000"), ("03000", "00200"), ("00300", "00020"), ("00030", "00002")])
SHRINKING_RING = vessel_of(3, [("300", "020"), ("030", "002"), ("003", "200")])
GROWING_RING = vessel_of(3, [("200", "030"), ("020", "003"), ("002", "300")])
UNUSED = vessel_of(5, [("10000", "00010"), ("00010", "10000")])
CHAIN = vessel_of(5, there_and_back([("10000", "01000"), ("01000", "00100"), ("00100", "00010"), ("00010", "00001")]))
EIGHT = vessel_of(
    5, [("00000", "10000"), ("10000", "01000"), ("01000", "00100"), ("00100", "00010"), ("00010", "00001"),
        ("00001", "00000"), ("33333", "00000"), ("01000", "33333")])
EIGHT_HEAPS = vessel_of(
    5, [("31020", "02103"), ("10233", "03012"), ("22013", "30121"), ("11302", "03220"), ("03012", "10233"),
        ("30121", "22013"), ("03220", "11302"), ("31020", "03220")])
HAND = (
    LOSS, GAIN, DOUBLING, HALVING, COMING_AND_GOING, UP_ALONE, SWAP, ONE_WAY, AWAY, PAIR_OUT, TWO_FOR_THREE, BESIDE,
    SPREAD, HUNT, FLASH, HALL, RING, SAME_CHANGES, HELPER, SHRINKING, SHRINKING_RING, GROWING_RING, UNUSED, CHAIN,
    EIGHT, EIGHT_HEAPS, FOUR_RING,
)


def random_vessel(chance, size, length):
    signs = chance.choice(("000123", "001", "0123", "03", "0000112", "23"))
    pairs = {}
    while len(pairs) < length:
        # Too few heaps for so many turnings: then others are drawn.
        pool = ["".join([chance.choice(signs) for stuff in range(size)]) for heap in range(chance.randint(2, 8))]
        if chance.randrange(3) == 0:
            pool[0] = "0" * size
        drawn = [(one, two) for one in pool for two in pool if one != two]
        chance.shuffle(drawn)
        if chance.randrange(2) == 0:
            drawn = there_and_back(drawn)
        pairs = dict.fromkeys(drawn[:length])
        signs = "0123"
    return vessel_of(size, list(pairs))


def vessels():
    chance = random.Random(23)
    told = list(HAND)
    for size in range(1, 6):
        for length in range(1, 9):
            told.extend([random_vessel(chance, size, length) for trial in range(8)])
    return told


ALL = vessels()


def changes_of(vessel):
    return [[two - one for one, two in zip(turning[0], turning[1])] for turning in vessel[1]]


def worth(row, pieces):
    return sum([number * many for number, many in zip(row, pieces)])


def come_to(vessel, times):
    """The change to which numbers of turnings come."""
    told = [0] * len(vessel[0])
    for number, row in zip(times, changes_of(vessel)):
        told = [there + number * many for there, many in zip(told, row)]
    return told


def rank(rows):
    """The count of rows that stand free, by quotients."""
    rest = [[Fraction(number) for number in row] for row in rows]
    told = 0
    for place in range(len(rows[0]) if rows else 0):
        heads = [row for row in rest if row[place] != 0]
        if heads:
            told += 1
            head = heads[0]
            others = [row for row in rest if row is not head]
            rest = [[one - row[place] / head[place] * two for one, two in zip(row, head)] for row in others]
    return told


class SumTest(unittest.TestCase):
    def check_rows(self, told, length, width):
        self.assertIs(type(told), list)
        self.assertEqual(len(told), length)
        self.assertEqual(rank(told), length)
        for row in told:
            self.assertIs(type(row), list)
            self.assertEqual([type(number) for number in row], [int] * width)
            self.assertEqual(gcd(*row), 1)
            self.assertGreater([number for number in row if number != 0][0], 0)
            self.assertLess(max([abs(number) for number in row]), 10 ** 60)

    def check_own(self, call):
        for vessel in ALL:
            with self.subTest(vessel):
                ahead = repr(vessel)
                first = call(vessel)
                second = call(vessel)
                held = [row if isinstance(row, int) else list(row) for row in first]
                for row in list(first):
                    if isinstance(row, list):
                        row[0] = 99
                        row.clear()
                first.append([7])
                first.clear()
                self.assertEqual(second, held)
                self.assertEqual(call(vessel), held)
                self.assertEqual(repr(vessel), ahead)


class Vessels(unittest.TestCase):
    def test_all_kinds_are_asked(self):
        sizes = {(len(vessel[0]), len(vessel[1])) for vessel in ALL}
        self.assertEqual(sizes, {(size, length) for size in range(1, 6) for length in range(1, 9)})
        self.assertTrue(any([len(heaps(vessel)) == 8 for vessel in ALL]))
        for tell in (
            lambda vessel: first_astray(vessel) is None,
            lambda vessel: (0,) * len(vessel[0]) in heaps(vessel),
            lambda vessel: rank(changes_of(vessel)) == len(vessel[1]),
            lambda vessel: rank(changes_of(vessel)) == len(vessel[0]),
            lambda vessel: any([pace[0] >= 10 ** 29 for one, two, pace in vessel[1]]),
        ):
            told = [tell(vessel) for vessel in ALL]
            self.assertGreater(told.count(True), 20)
            self.assertGreater(told.count(False), 20)


class Free(SumTest):
    def test_by_hand(self):
        rows = (
            (LOSS, [0]), (GAIN, [0]), (COMING_AND_GOING, [0]), (UP_ALONE, [0]), (SWAP, [0]), (AWAY, [0, 1]),
            (SPREAD, [0]), (HUNT, [0, 1]), (FLASH, [0, 1]), (HALL, [0]), (RING, [0, 1]), (SAME_CHANGES, [0]),
            (HELPER, [0, 2]), (SHRINKING, [0, 1, 2, 3]), (GROWING_RING, [0, 1, 2]), (CHAIN, [0, 2, 4, 6]),
            (EIGHT, [0, 1, 2, 3, 4]),
            (vessel_of(3, [("100", "010"), ("200", "020"), ("010", "001"), ("001", "100"), ("000", "111")]), [0, 2, 4]),
            (vessel_of(2, [("10", "20"), ("20", "30"), ("20", "10"), ("00", "01")]), [0, 3]),
        )
        for vessel, told in rows:
            with self.subTest(vessel):
                self.assertEqual(free(vessel), told)

    def test_each_turning_just_where_it_stands_free(self):
        for vessel in ALL:
            with self.subTest(vessel):
                told = free(vessel)
                self.assertIs(type(told), list)
                self.assertEqual([type(number) for number in told], [int] * len(told))
                self.assertEqual(told, sorted(set(told)))
                rows = changes_of(vessel)
                self.assertEqual([list(change(vessel, number)) for number in range(len(rows))], rows)
                ahead = []
                for number, row in enumerate(rows):
                    stands_free = rank(ahead + [row]) == len(ahead) + 1
                    self.assertEqual(number in told, stands_free)
                    if stands_free:
                        ahead.append(row)
                self.assertEqual(len(told), len(ahead))

    def test_the_told_list_is_the_askers_own(self):
        self.check_own(free)


class Kept(SumTest):
    def test_by_hand(self):
        # Vessels that leave no choice: no kept sum, or one.
        rows = (
            (LOSS, []), (GAIN, []), (COMING_AND_GOING, []), (AWAY, []), (HUNT, []), (FLASH, []), (GROWING_RING, []),
            (EIGHT, []), (SWAP, [[1, 1]]), (ONE_WAY, [[1, 1]]), (PAIR_OUT, [[1, -1]]), (TWO_FOR_THREE, [[2, 3]]),
            (BESIDE, [[1, 0]]), (SPREAD, [[1, 1]]), (RING, [[1, 1, 1]]), (SHRINKING, [[16, 24, 36, 54, 81]]),
            (CHAIN, [[1, 1, 1, 1, 1]]),
            (vessel_of(2, [("10", "00"), ("00", "20")]), [[0, 1]]),
            (vessel_of(2, [("33", "00"), ("02", "22")]), []),
            (vessel_of(3, [("100", "000"), ("010", "003")]), [[0, 3, 1]]),
            (vessel_of(3, [("100", "000"), ("010", "303")]), [[0, 3, 1]]),
            (vessel_of(3, [("100", "000"), ("033", "000")]), [[0, 1, -1]]),
        )
        for vessel, told in rows:
            with self.subTest(vessel):
                self.assertEqual(kept(vessel), told)

    def test_kept_by_every_turning_and_as_many_as_told(self):
        for vessel in ALL:
            with self.subTest(vessel):
                told = kept(vessel)
                rows = changes_of(vessel)
                self.check_rows(told, len(vessel[0]) - rank(rows), len(vessel[0]))
                self.assertEqual(len(told), len(vessel[0]) - len(free(vessel)))
                for row in told:
                    self.assertEqual([worth(row, pieces) for pieces in rows], [0] * len(rows))

    def test_each_kept_sum_comes_of_the_told_ones(self):
        for vessel, row in (
            (HALL, [1, 1, 1]), (HALL, [1, -2, 0]), (HALL, [0, 3, 1]), (HELPER, [1, 0, 1, 0]), (HELPER, [0, 1, 1, 1]),
            (HELPER, [1, -1, 0, -1]), (SAME_CHANGES, [1, 1, 0]), (SAME_CHANGES, [0, 0, 1]), (UNUSED, [1, 5, -2, 1, 0]),
        ):
            with self.subTest(vessel=vessel, row=row):
                told = kept(vessel)
                self.assertEqual(rank(told + [row]), len(told))

    def test_no_walk_changes_their_worth(self):
        counts = ((HALL, (6, 4, 1)), (RING, (2, 1, 0)), (HELPER, (2, 3, 0, 1)), (SHRINKING, (3, 4, 5, 6, 0)))
        for vessel, count in counts:
            for row in kept(vessel):
                for there, walk in comings(vessel, count):
                    with self.subTest(vessel=vessel, row=row, walk=walk):
                        self.assertEqual(worth(row, there), worth(row, count))

    def test_the_told_lists_are_the_askers_own(self):
        self.check_own(kept)


class Rounds(SumTest):
    def test_by_hand(self):
        # Vessels that leave no choice: no round, or one.
        rows = (
            (LOSS, []), (GAIN, []), (ONE_WAY, []), (AWAY, []), (PAIR_OUT, []), (SHRINKING, []), (GROWING_RING, []),
            (COMING_AND_GOING, [[3, 1]]), (SWAP, [[1, 1]]), (SPREAD, [[1, 1]]), (HALL, [[1, 1]]), (RING, [[1, 1, 1]]),
            (HUNT, [[1, 1, 1]]), (HELPER, [[1, 1, 0]]),
            (vessel_of(1, [("0", "3"), ("0", "2")]), [[2, -3]]),
            (vessel_of(1, [("2", "0"), ("0", "2")]), [[1, 1]]),
            (vessel_of(2, [("10", "01"), ("20", "02")]), [[2, -1]]),
            (vessel_of(2, [("00", "11"), ("10", "01"), ("01", "10")]), [[0, 1, 1]]),
            (vessel_of(2, [("30", "02"), ("03", "10"), ("10", "00")]), [[3, 2, -7]]),
        )
        for vessel, told in rows:
            with self.subTest(vessel):
                self.assertEqual(rounds(vessel), told)

    def test_they_change_nothing_and_are_as_many_as_told(self):
        for vessel in ALL:
            with self.subTest(vessel):
                told = rounds(vessel)
                rows = changes_of(vessel)
                self.check_rows(told, len(rows) - rank(rows), len(rows))
                self.assertEqual(len(told), len(rows) - len(free(vessel)))
                for times in told:
                    self.assertEqual(come_to(vessel, times), [0] * len(vessel[0]))

    def test_each_round_comes_of_the_told_ones(self):
        for vessel, times in (
            (SAME_CHANGES, [1, -1, 0, 0]), (SAME_CHANGES, [2, 0, -1, 0]), (SAME_CHANGES, [0, 1, 1, 3]),
            (UP_ALONE, [3, -1, 0]), (UP_ALONE, [1, -1, 1]), (CHAIN, [1, 1, 2, 2, 0, 0, 5, 5]),
            (EIGHT, [1, 1, 1, 1, 1, 1, 0, 0]),
        ):
            with self.subTest(vessel=vessel, times=times):
                self.assertEqual(come_to(vessel, times), [0] * len(vessel[0]))
                told = rounds(vessel)
                self.assertEqual(rank(told + [times]), len(told))

    def test_the_told_lists_are_the_askers_own(self):
        self.check_own(rounds)


class WhatIsHandedIn(SumTest):
    def test_lists_changed_behind_the_making(self):
        words = ["a", "b", "c"]
        rows = [[[2, 1, 0], [0, 0, 3], (1, 2)], [[0, 0, 3], [2, 1, 0], (4, 1)], [[1, 0, 0], [0, 1, 0], (1, 1)]]
        vessel = made(words, rows)
        first = [call(vessel) for call in (free, kept, rounds)]
        rows[0][0][0] = 0
        rows[2].clear()
        rows.clear()
        words.clear()
        self.assertEqual([call(vessel) for call in (free, kept, rounds)], first)
        self.assertEqual(first, [[0, 2], [[1, 1, 1]], [[1, 1, 0]]])


if __name__ == "__main__":
    unittest.main()
