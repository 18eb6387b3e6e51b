import random
import unittest

from vesselhall.vessels import made
from vesselhall.walks import comings
from vesselhall.weights import keeping, returning, sheltered

ONE = (1, 1)
LONG = (10 ** 29 + 1, 10 ** 29)
LONGER = (10 ** 30 - 1, 10 ** 29 + 7)
WORDS = ("a", "b", "c", "d", "e")


def vessel_of(size, pairs):
    """A vessel of this many stuffs with these pairs (from, to), each heap a text of figures."""
    paces = (ONE, LONG, (7, 3), LONGER)
    rows = []
    for number, (one, two) in enumerate(pairs):
        rows.append([[int(sign) for sign in one], [int(sign) for sign in two], paces[number % 4]])
    return made(list(WORDS[:size]), rows)


def there_and_back(pairs):
    return [pair for one, two in pairs for pair in ((one, two), (two, one))]


LOSS = vessel_of(1, [("1", "0")])
GAIN = vessel_of(1, [("0", "1")])
DOUBLING = vessel_of(1, [("1", "2")])
HALVING = vessel_of(1, [("3", "1")])
COMING_AND_GOING = vessel_of(1, [("0", "1"), ("3", "0")])
UP_ALONE = vessel_of(1, [("0", "1"), ("0", "3"), ("1", "3")])
SWAP = vessel_of(2, [("10", "01"), ("01", "10")])
ONE_WAY = vessel_of(2, [("10", "01")])
AWAY = vessel_of(2, [("10", "01"), ("01", "00")])
PAIR_OUT = vessel_of(2, [("11", "00")])
TWO_FOR_THREE = vessel_of(2, [("30", "02")])
BESIDE = vessel_of(2, [("10", "11")])
SPREAD = vessel_of(2, [("11", "02"), ("01", "10")])
HUNT = vessel_of(2, [("10", "20"), ("11", "02"), ("01", "00")])
FLASH = vessel_of(2, [("00", "10"), ("21", "30"), ("10", "01"), ("10", "00")])
HALL = vessel_of(3, [("210", "003"), ("003", "210")])
RING = vessel_of(3, [("100", "010"), ("010", "001"), ("001", "100")])
SAME_CHANGES = vessel_of(3, [("100", "010"), ("101", "011"), ("200", "020"), ("010", "100")])
FOUR_RING = vessel_of(4, [("1000", "0100"), ("0100", "0010"), ("0010", "0001"), ("0001", "1000")])
HELPER = vessel_of(4, [("1100", "0010"), ("0010", "1100"), ("0010", "1001")])
SHRINKING = vessel_of(5, [("30000", "02000"), ("03000", "00200"), ("00300", "00020"), ("00030", "00002")])
SHRINKING_RING = vessel_of(3, [("300", "020"), ("030", "002"), ("003", "200")])
GROWING_RING = vessel_of(3, [("200", "030"), ("020", "003"), ("002", "300")])
UNUSED = vessel_of(5, [("10000", "00010"), ("00010", "10000")])
CHAIN = vessel_of(5, there_and_back([("10000", "01000"), ("01000", "00100"), ("00100", "00010"), ("00010", "00001")]))
EIGHT = vessel_of(
    5, [("00000", "10000"), ("10000", "01000"), ("01000", "00100"), ("00100", "00010"), ("00010", "00001"),
        ("00001", "00000"), ("33333", "00000"), ("01000", "33333")])
EIGHT_HEAPS = vessel_of(
    5, [("31020", "02103"), ("10233", "03012"), ("22013", "30121"), ("11302", "03220"), ("03012", "10233"),
        ("30121", "22013"), ("03220", "11302"), ("31020", "03220")])
HAND = (
    LOSS, GAIN, DOUBLING, HALVING, COMING_AND_GOING, UP_ALONE, SWAP, ONE_WAY, AWAY, PAIR_OUT, TWO_FOR_THREE, BESIDE,
    SPREAD, HUNT, FLASH, HALL, RING, SAME_CHANGES, HELPER, SHRINKING, SHRINKING_RING, GROWING_RING, UNUSED, CHAIN,
    EIGHT, EIGHT_HEAPS, FOUR_RING,
)


def random_vessel(chance, size, length):
    signs = chance.choice(("000123", "001", "0123", "03", "0000112", "23"))
    pairs = {}
    while len(pairs) < length:
        # Too few heaps for so many turnings: then others are drawn.
        pool = ["".join([chance.choice(signs) for stuff in range(size)]) for heap in range(chance.randint(2, 8))]
        if chance.randrange(3) == 0:
            pool[0] = "0" * size
        drawn = [(one, two) for one in pool for two in pool if one != two]
        chance.shuffle(drawn)
        if chance.randrange(2) == 0:
            drawn = there_and_back(drawn)
        pairs = dict.fromkeys(drawn[:length])
        signs = "0123"
    return vessel_of(size, list(pairs))


def vessels():
    chance = random.Random(23)
    told = list(HAND)
    for size in range(1, 6):
        for length in range(1, 9):
            told.extend([random_vessel(chance, size, length) for trial in range(8)])
    return told


ALL = vessels()
CALLS = (sheltered, keeping, returning)


def changes_of(vessel):
    return [[two - one for one, two in zip(turning[0], turning[1])] for turning in vessel[1]]


def worths(vessel, row):
    """What each turning's change is worth by a sum."""
    return [sum([number * many for number, many in zip(row, pieces)]) for pieces in changes_of(vessel)]


def come_to(vessel, times):
    """The change to which numbers of turnings come."""
    told = [0] * len(vessel[0])
    for number, row in zip(times, changes_of(vessel)):
        told = [there + number * many for there, many in zip(told, row)]
    return told


class WeightTest(unittest.TestCase):
    def check_kinds(self, vessel, told, true_length, false_length):
        self.assertIs(type(told), tuple)
        self.assertEqual(len(told), 2)
        self.assertIs(type(told[0]), bool)
        self.assertIs(type(told[1]), list)
        self.assertEqual([type(number) for number in told[1]], [int] * (true_length if told[0] else false_length))
        self.assertLess(max([abs(number) for number in told[1]]), 10 ** 60)

    def check_grows(self, vessel, times):
        there = come_to(vessel, times)
        self.assertGreaterEqual(min(there), 0)
        self.assertGreater(max(there), 0)

    def check_sheltered(self, vessel):
        told = sheltered(vessel)
        self.check_kinds(vessel, told, len(vessel[0]), len(vessel[1]))
        if told[0]:
            self.assertGreaterEqual(min(told[1]), 1)
            self.assertLessEqual(max(worths(vessel, told[1])), 0)
        else:
            self.assertGreaterEqual(min(told[1]), 0)
            self.check_grows(vessel, told[1])
        return told[0]

    def check_keeping(self, vessel):
        told = keeping(vessel)
        self.check_kinds(vessel, told, len(vessel[0]), len(vessel[1]))
        if told[0]:
            self.assertGreaterEqual(min(told[1]), 1)
            self.assertEqual(worths(vessel, told[1]), [0] * len(vessel[1]))
        else:
            self.check_grows(vessel, told[1])
        return told[0]

    def check_returning(self, vessel):
        told = returning(vessel)
        self.check_kinds(vessel, told, len(vessel[1]), len(vessel[0]))
        if told[0]:
            self.assertGreaterEqual(min(told[1]), 1)
            self.assertEqual(come_to(vessel, told[1]), [0] * len(vessel[0]))
        else:
            there = worths(vessel, told[1])
            self.assertGreaterEqual(min(there), 0)
            self.assertGreater(max(there), 0)
        return told[0]

    def check_all(self, check):
        cases = []
        for vessel in ALL:
            with self.subTest(vessel):
                cases.append(check(vessel))
        self.assertGreater(cases.count(True), 20)
        self.assertGreater(cases.count(False), 20)

    def check_cases(self, check, yes, no):
        for case, vessels_of_case in ((True, yes), (False, no)):
            for vessel in vessels_of_case:
                with self.subTest(vessel):
                    self.assertIs(check(vessel), case)


class Sheltered(WeightTest):
    def test_by_hand(self):
        self.check_cases(
            self.check_sheltered,
            (LOSS, HALVING, SWAP, ONE_WAY, AWAY, PAIR_OUT, TWO_FOR_THREE, SPREAD, HALL, RING, SAME_CHANGES, HELPER,
             SHRINKING, SHRINKING_RING, UNUSED, CHAIN, vessel_of(2, [("10", "03"), ("02", "00")]),
             vessel_of(2, [("10", "03"), ("03", "10"), ("01", "00")]),
             vessel_of(5, [("10000", "03000"), ("01000", "00300"), ("00100", "00030"), ("00010", "00003")])),
            (GAIN, DOUBLING, COMING_AND_GOING, UP_ALONE, BESIDE, HUNT, FLASH, GROWING_RING, EIGHT,
             vessel_of(2, [("10", "03"), ("02", "10")]), vessel_of(2, [("10", "00"), ("02", "03")]),
             vessel_of(2, [("30", "02"), ("01", "20")]), vessel_of(3, [("111", "000"), ("000", "100")])))

    def test_all_vessels(self):
        self.check_all(self.check_sheltered)

    def test_no_walk_raises_the_worth(self):
        for vessel, count in ((HALVING, (9,)), (SWAP, (5, 0)), (HALL, (6, 4, 1)), (SHRINKING, (9, 0, 1, 0, 0))):
            weights = sheltered(vessel)[1]
            most = sum([weight * pieces for weight, pieces in zip(weights, count)])
            for there, walk in comings(vessel, count):
                with self.subTest(vessel=vessel, walk=walk):
                    self.assertLessEqual(sum([weight * pieces for weight, pieces in zip(weights, there)]), most)


class Keeping(WeightTest):
    def test_by_hand(self):
        self.check_cases(
            self.check_keeping,
            (SWAP, ONE_WAY, TWO_FOR_THREE, SPREAD, HALL, RING, SAME_CHANGES, HELPER, SHRINKING, UNUSED, CHAIN,
             vessel_of(5, [("10000", "03000"), ("01000", "00300"), ("00100", "00030"), ("00010", "00003")])),
            (LOSS, GAIN, DOUBLING, HALVING, COMING_AND_GOING, AWAY, PAIR_OUT, BESIDE, HUNT, FLASH, SHRINKING_RING,
             GROWING_RING, EIGHT, vessel_of(2, [("10", "03"), ("02", "10")]),
             vessel_of(3, [("100", "010"), ("100", "020")])))

    def test_the_only_weights(self):
        # All such weights are so many times these.
        for vessel, row in (
            (SWAP, [1, 1]), (TWO_FOR_THREE, [2, 3]), (RING, [1, 1, 1]), (SHRINKING, [16, 24, 36, 54, 81]),
        ):
            with self.subTest(vessel):
                case, weights = keeping(vessel)
                self.assertIs(case, True)
                self.assertEqual([weight * row[0] for weight in weights], [number * weights[0] for number in row])

    def test_all_vessels(self):
        self.check_all(self.check_keeping)

    def test_what_is_keeping_is_sheltered(self):
        for vessel in ALL:
            with self.subTest(vessel):
                self.assertTrue(sheltered(vessel)[0] or not keeping(vessel)[0])


class Returning(WeightTest):
    def test_by_hand(self):
        self.check_cases(
            self.check_returning,
            (COMING_AND_GOING, SWAP, SPREAD, HUNT, HALL, RING, SAME_CHANGES, UNUSED, CHAIN, EIGHT,
             vessel_of(1, [("0", "3"), ("1", "3"), ("1", "0")]),
             vessel_of(2, [("10", "03"), ("03", "00"), ("00", "10")]),
             vessel_of(2, [("30", "02"), ("03", "10"), ("00", "10")])),
            (LOSS, GAIN, DOUBLING, HALVING, UP_ALONE, ONE_WAY, AWAY, PAIR_OUT, TWO_FOR_THREE, BESIDE, HELPER,
             SHRINKING, SHRINKING_RING, GROWING_RING, vessel_of(2, [("10", "01"), ("01", "10"), ("10", "11")]),
             vessel_of(2, [("30", "02"), ("03", "10"), ("10", "00")])))

    def test_the_only_round(self):
        # All rounds are so many times these.
        for vessel, row in ((COMING_AND_GOING, [3, 1]), (SWAP, [1, 1]), (HUNT, [1, 1, 1]), (RING, [1, 1, 1]),
                            (vessel_of(2, [("30", "02"), ("03", "10"), ("00", "10")]), [3, 2, 7])):
            with self.subTest(vessel):
                case, times = returning(vessel)
                self.assertIs(case, True)
                self.assertEqual([number * row[0] for number in times], [number * times[0] for number in row])

    def test_all_vessels(self):
        self.check_all(self.check_returning)


class WhatIsTold(WeightTest):
    def test_the_told_lists_are_the_askers_own(self):
        for vessel in ALL:
            for call in CALLS:
                with self.subTest(vessel=vessel, call=call):
                    ahead = repr(vessel)
                    first = call(vessel)
                    second = call(vessel)
                    held = (first[0], list(first[1]))
                    first[1][0] = -99
                    first[1].clear()
                    self.assertEqual(second, held)
                    self.assertEqual(call(vessel), held)
                    self.assertEqual(repr(vessel), ahead)

    def test_paces_change_no_case(self):
        for vessel in HAND:
            rows = [[one, two, (10 ** 29 + number, 1)] for number, (one, two, pace) in enumerate(vessel[1])]
            for call in CALLS:
                with self.subTest(vessel=vessel, call=call):
                    self.assertEqual(call(made(list(vessel[0]), rows))[0], call(vessel)[0])

    def test_lists_changed_behind_the_making(self):
        words = ["a", "b"]
        rows = [[[3, 0], [0, 2], (1, 2)], [[0, 3], [1, 0], (4, 1)], [[0, 0], [1, 0], (1, 1)]]
        vessel = made(words, rows)
        first = [call(vessel) for call in CALLS]
        rows[0][0][0] = 0
        rows[2].clear()
        rows.clear()
        words.clear()
        self.assertEqual([call(vessel) for call in CALLS], first)
        self.assertEqual([case for case, numbers in first], [False, False, True])


if __name__ == "__main__":
    unittest.main()
