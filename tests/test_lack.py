import random
import unittest
from fractions import Fraction
from math import gcd

from vesselhall.lack import lack, lack_rows
from vesselhall.sums import free
from vesselhall.ties import lots
from vesselhall.vessels import heaps, made

ONE = (1, 1)
LONG = (10 ** 29 + 1, 10 ** 29)
LONGER = (10 ** 30 - 1, 10 ** 29 + 7)
WORDS = ("a", "b", "c", "d", "e")


def vessel_of(size, pairs):
    """A vessel of this many stuffs with these pairs (from, to), each heap a text of figures."""
    paces = (ONE, LONG, (7, 3), LONGER)
    rows = []
    for number, (one, two) in enumerate(pairs):
        rows.append([[int(sign) for sign in one], [int(sign) for sign in two], paces[number % 4]])
    return made(list(WORDS[:size]), rows)


def there_and_back(pairs):
    return [pair for one, two in pairs for pair in ((one, two), (two, one))]


LOSS = vessel_of(1, [("1", "0")])
GAIN = vessel_of(1, [("0", "1")])
DOUBLING = vessel_of(1, [("1", "2")])
HALVING = vessel_of(1, [("3", "1")])
COMING_AND_GOING = vessel_of(1, [("0", "1"), ("3", "0")])
UP_ALONE = vessel_of(1, [("0", "1"), ("0", "3"), ("1", "3")])
SWAP = vessel_of(2, [("10", "01"), ("01", "10")])
ONE_WAY = vessel_of(2, [("10", "01")])
AWAY = vessel_of(2, [("10", "01"), ("01", "00")])
PAIR_OUT = vessel_of(2, [("11", "00")])
TWO_FOR_THREE = vessel_of(2, [("30", "02")])
BESIDE = vessel_of(2, [("10", "11")])
SPREAD = vessel_of(2, [("11", "02"), ("01", "10")])
HUNT = vessel_of(2, [("10", "20"), ("11", "02"), ("01", "00")])
FLASH = vessel_of(2, [("00", "10"), ("21", "30"), ("10", "01"), ("10", "00")])
HALL = vessel_of(3, [("210", "003"), ("003", "210")])
RING = vessel_of(3, [("100", "010"), ("010", "001"), ("001", "100")])
SAME_CHANGES = vessel_of(3, [("100", "010"), ("101", "011"), ("200", "020"), ("010", "100")])
FOUR_RING = vessel_of(4, [("1000", "0100"), ("0100", "0010"), ("0010", "0001"), ("0001", "1000")])
HELPER = vessel_of(4, [("1100", "0010"), ("0010", "1100"), ("0010", "1001")])
SHRINKING = vessel_of(5, [("30000", "02000"), ("03000", "00200"), ("00300", "00020"), ("00030", "00002")])
SHRINKING_RING = vessel_of(3, [("300", "020"), ("030", "002"), ("003", "200")])
GROWING_RING = vessel_of(3, [("200", "030"), ("020", "003"), ("002", "300")])
UNUSED = vessel_of(5, [("10000", "00010"), ("00010", "10000")])
CHAIN = vessel_of(5, there_and_back([("10000", "01000"), ("01000", "00100"), ("00100", "00010"), ("00010", "00001")]))
EIGHT = vessel_of(
    5, [("00000", "10000"), ("10000", "01000"), ("01000", "00100"), ("00100", "00010"), ("00010", "00001"),
        ("00001", "00000"), ("33333", "00000"), ("01000", "33333")])
EIGHT_HEAPS = vessel_of(
    5, [("31020", "02103"), ("10233", "03012"), ("22013", "30121"), ("11302", "03220"), ("03012", "10233"),
        ("30121", "22013"), ("03220", "11302"), ("31020", "03220")])
HAND = (
    LOSS, GAIN, DOUBLING, HALVING, COMING_AND_GOING, UP_ALONE, SWAP, ONE_WAY, AWAY, PAIR_OUT, TWO_FOR_THREE, BESIDE,
    SPREAD, HUNT, FLASH, HALL, RING, SAME_CHANGES, HELPER, SHRINKING, SHRINKING_RING, GROWING_RING, UNUSED, CHAIN,
    EIGHT, EIGHT_HEAPS, FOUR_RING,
)


def random_vessel(chance, size, length):
    signs = chance.choice(("000123", "001", "0123", "03", "0000112", "23"))
    pairs = {}
    while len(pairs) < length:
        # Too few heaps for so many turnings: then others are drawn.
        pool = ["".join([chance.choice(signs) for stuff in range(size)]) for heap in range(chance.randint(2, 8))]
        if chance.randrange(3) == 0:
            pool[0] = "0" * size
        drawn = [(one, two) for one in pool for two in pool if one != two]
        chance.shuffle(drawn)
        if chance.randrange(2) == 0:
            drawn = there_and_back(drawn)
        pairs = dict.fromkeys(drawn[:length])
        signs = "0123"
    return vessel_of(size, list(pairs))


def vessels():
    chance = random.Random(23)
    told = list(HAND)
    for size in range(1, 6):
        for length in range(1, 9):
            told.extend([random_vessel(chance, size, length) for trial in range(8)])
    return told


ALL = vessels()
# Two lots of four heaps each in five stuffs: their one row has numbers of four figures.
GREAT_ROW = vessel_of(
    5, [("00323", "00030"), ("00030", "13101"), ("13101", "32300"), ("32300", "00323"),
        ("31330", "02300"), ("02300", "30103"), ("30103", "33032"), ("33032", "31330")])
ONE_LOT = vessel_of(
    5, [("00323", "00030"), ("00030", "13101"), ("13101", "32300"), ("32300", "31330"),
        ("31330", "02300"), ("02300", "30103"), ("30103", "33032"), ("33032", "00323")])
EVERY = ALL + [GREAT_ROW, ONE_LOT]


def heaps_of(vessel):
    return list(dict.fromkeys([heap for turning in vessel[1] for heap in turning[:2]]))


def lots_of(vessel):
    """The lots as sets of numbers, grown until no turning leads out of one."""
    told = heaps_of(vessel)
    found = []
    for number in range(len(told)):
        if not any([number in lot for lot in found]):
            lot = {number}
            while True:
                more = set(lot)
                for one, two, pace in vessel[1]:
                    ends = {told.index(one), told.index(two)}
                    more |= ends if ends & lot else set()
                if more == lot:
                    break
                lot = more
            found.append(lot)
    return found


def rank(rows):
    """How many of the rows stand free, over the fractions."""
    left = [[Fraction(number) for number in row] for row in rows]
    found = 0
    for place in range(len(rows[0]) if rows else 0):
        heads = [row for row in left if row[place] != 0]
        if heads:
            head = heads[0]
            left.remove(head)
            left = [[number - other * row[place] / head[place] for number, other in zip(row, head)] for row in left]
            found += 1
    return found


def changes_of(vessel):
    return [[two - one for one, two in zip(turning[0], turning[1])] for turning in vessel[1]]


def lack_of(vessel):
    return len(heaps_of(vessel)) - len(lots_of(vessel)) - rank(changes_of(vessel))


class TheLack(unittest.TestCase):
    def test_it_is_the_heaps_less_the_lots_less_the_free_turnings(self):
        for vessel in EVERY:
            with self.subTest(vessel=vessel):
                told = lack(vessel)
                self.assertIs(type(told), int)
                self.assertEqual(told, lack_of(vessel))
                self.assertEqual(told, len(heaps(vessel)) - len(lots(vessel)) - len(free(vessel)))
                self.assertGreaterEqual(told, 0)
                self.assertEqual(lack(vessel), told)

    def test_the_vessels_asked_are_of_all_kinds(self):
        met = {}
        for vessel in EVERY:
            key = (min(lack_of(vessel), 2), min(len(lots_of(vessel)), 2))
            met[key] = met.get(key, 0) + 1
        # A lack of 0, 1 and above, with one lot and with several.
        for key in ((0, 1), (1, 1), (2, 1), (0, 2), (1, 2), (2, 2)):
            self.assertGreater(met.get(key, 0), 4, key)
        self.assertEqual({(len(vessel[0]), len(vessel[1])) for vessel in EVERY},
                         {(size, length) for size in range(1, 6) for length in range(1, 9)})

    def test_by_hand(self):
        self.assertEqual(lack(LOSS), 0)
        self.assertEqual(lack(SWAP), 0)
        self.assertEqual(lack(RING), 0)
        self.assertEqual(lack(HALL), 0)
        self.assertEqual(lack(CHAIN), 0)
        # Three heaps of one stuff in one lot, and one free turning.
        self.assertEqual(lack(UP_ALONE), 1)
        # a and 2 a, a + b and 2 b, b and nought: six heaps, three lots, two free turnings.
        self.assertEqual(lack(HUNT), 1)
        self.assertEqual(lack(SAME_CHANGES), 2)
        self.assertEqual(lack(GREAT_ROW), 1)
        self.assertEqual(lack(ONE_LOT), 2)

    def test_the_greatest_lack(self):
        # All heaps of one stuff, and eight of two stuffs on a line: one free turning alone.
        self.assertEqual(lack(vessel_of(1, [("0", "1"), ("1", "2"), ("2", "3")])), 2)
        line = [("00", "33"), ("33", "11"), ("11", "22")]
        self.assertEqual(lack(vessel_of(2, line)), 2)
        square = [("00", "01"), ("01", "02"), ("02", "03"), ("03", "10"), ("10", "11"), ("11", "12"), ("12", "13")]
        self.assertEqual(lack(vessel_of(2, square)), 5)


class TheLacksRows(unittest.TestCase):
    def check_row(self, vessel, row):
        told = heaps_of(vessel)
        self.assertIs(type(row), list)
        self.assertEqual(len(row), len(told))
        for number in row:
            self.assertIs(type(number), int)
            self.assertLess(abs(number), 10 ** 60)
        for lot in lots_of(vessel):
            self.assertEqual(sum([row[number] for number in lot]), 0)
        for stuff in range(len(vessel[0])):
            self.assertEqual(sum([number * heap[stuff] for number, heap in zip(row, told)]), 0)
        self.assertEqual(gcd(*row), 1)
        self.assertGreater([number for number in row if number != 0][0], 0)

    def test_the_rows(self):
        met = 0
        for vessel in EVERY:
            with self.subTest(vessel=vessel):
                rows = lack_rows(vessel)
                self.assertIs(type(rows), list)
                self.assertEqual(len(rows), lack_of(vessel))
                self.assertEqual(rank(rows), len(rows))
                for row in rows:
                    self.check_row(vessel, row)
                    met += 1
        self.assertGreater(met, 150)

    def test_by_hand(self):
        # Where there is but one row, the point leaves no choice.
        self.assertEqual(lack_rows(SWAP), [])
        self.assertEqual(lack_rows(LOSS), [])
        self.assertEqual(lack_rows(UP_ALONE), [[2, -3, 1]])
        self.assertEqual(lack_rows(vessel_of(1, [("0", "1"), ("2", "3")])), [[1, -1, -1, 1]])
        self.assertEqual(lack_rows(vessel_of(1, [("0", "1"), ("3", "2")])), [[1, -1, 1, -1]])
        self.assertEqual(lack_rows(vessel_of(1, [("1", "0"), ("0", "3")])), [[3, -2, -1]])
        self.assertEqual(lack_rows(HUNT), [[1, -1, 1, -1, 1, -1]])
        self.assertEqual(lack_rows(GREAT_ROW), [[111, 254, -1260, 895, -1012, 475, -147, 684]])

    def test_a_lot_that_has_no_part_in_it(self):
        # 0 and a, 2 a and 3 a; b and c stand by themselves.
        vessel = vessel_of(3, [("010", "001"), ("000", "100"), ("200", "300")])
        self.assertEqual(lack_rows(vessel), [[0, 0, 1, -1, -1, 1]])

    def test_the_told_lists_are_the_askers_own(self):
        for vessel in (UP_ALONE, HUNT, SAME_CHANGES, ONE_LOT, GREAT_ROW):
            first = lack_rows(vessel)
            again = [list(row) for row in first]
            first[0].clear()
            first.clear()
            self.assertEqual(lack_rows(vessel), again)

    def test_paces_change_nothing(self):
        for vessel in EVERY:
            other = made(list(vessel[0]), [(one, two, (number + 1, 1)) for number, (one, two, pace)
                                           in enumerate(vessel[1])])
            self.assertEqual(lack(other), lack(vessel))


if __name__ == "__main__":
    unittest.main()
