import random
import unittest
from fractions import Fraction
from itertools import combinations, permutations
from math import comb, factorial, gcd, lcm

from vesselhall import errors
from vesselhall.errors import NotEven, NotNow, NoTurning, TooMany, VesselError
from vesselhall.even import even, gain, shares
from vesselhall.fractions import over, plus, times
from vesselhall.lack import lack, lack_rows
from vesselhall.ties import first_astray, lots
from vesselhall.trees import tree_weights
from vesselhall.vessels import heaps, made
from vesselhall.walks import comings, walked, ways

WORDS = ("a", "b", "c", "d", "e")
LONG = (10 ** 29 + 1, 10 ** 29)
LONGER = (10 ** 30 - 1, 10 ** 29 + 7)


def vessel_of(size, turnings):
    """A vessel of this many stuffs with these turnings (from, to, top, bottom), each heap a text of figures."""
    rows = []
    for one, two, top, bottom in turnings:
        rows.append([[int(sign) for sign in one], [int(sign) for sign in two], (top, bottom)])
    return made(list(WORDS[:size]), rows)


def with_paces(vessel, paces):
    return made(list(vessel[0]), [(one, two, pace) for (one, two, old), pace in zip(vessel[1], paces)])


def drawn_heaps(chance, size):
    signs = chance.choice(((0, 0, 0, 1, 2, 3), (0, 0, 1), (0, 1, 2, 3), (0, 3), (0, 0, 0, 0, 1, 1, 2)))
    pool = [tuple([chance.choice(signs) for stuff in range(size)]) for heap in range(chance.randint(2, 8))]
    return list(dict.fromkeys(pool))


def drawn_rings(chance, size, length):
    """Rings of heaps that have so many turnings in all: so all of them lead back."""
    while True:
        pool = drawn_heaps(chance, size)
        # Rings in one part of the heaps or the other: so there are several lots.
        cut = len(pool) // 2 if chance.randrange(2) == 0 else len(pool)
        parts = [part for part in (pool[:cut], pool[cut:]) if len(part) > 1]
        rings = []
        turnings = {}
        while len(turnings) < length and len(rings) < 9 and parts:
            part = chance.choice(parts)
            ring = chance.sample(part, chance.randint(2, min(len(part), length)))
            rings.append(list(zip(ring, ring[1:] + ring[:1])))
            turnings.update(dict.fromkeys(rings[-1]))
        if len(turnings) == length:
            return rings


def power(base, heap):
    product = Fraction(1)
    for number, often in zip(base, heap):
        product *= number ** often
    return product


def drawn_even(chance, size, length):
    """(vessel, base): round each ring goes the same flow, where a heap has the weight of the base to its pieces."""
    rings = drawn_rings(chance, size, length)
    base = [Fraction(chance.randint(1, 9), chance.randint(1, 9)) for stuff in range(size)]
    most = chance.choice((1, 9, 10 ** 12))
    flows = {}
    for ring in rings:
        flow = Fraction(chance.randint(1, most), chance.randint(1, 9))
        for ends in ring:
            flows[ends] = flows.get(ends, 0) + flow
    order = list(flows)
    chance.shuffle(order)
    rows = []
    for one, two in order:
        pace = flows[(one, two)] / power(base, one)
        rows.append([one, two, (pace.numerator, pace.denominator)])
    return (made(list(WORDS[:size]), rows), base)


def drawn_pace(chance):
    pace = Fraction(chance.randint(1, 10 ** chance.choice((1, 5, 30)) - 1), chance.randint(1, 10 ** 30 - 1))
    return (pace.numerator, pace.denominator)


def drawn_vessels():
    """Even-handed ones with their bases, and the same turnings with other paces, most of them not even-handed."""
    chance = random.Random(31)
    evens = []
    others = []
    for size in range(1, 6):
        for length in range(2, 9):
            for trial in range(3):
                vessel, base = drawn_even(chance, size, length)
                evens.append((vessel, base))
                paces = [pace for one, two, pace in vessel[1]]
                place = chance.randrange(length)
                pace = Fraction(*paces[place]) * Fraction(chance.randint(1, 3), chance.randint(1, 3))
                paces[place] = (pace.numerator, pace.denominator)
                others.append(with_paces(vessel, paces))
                others.append(with_paces(vessel, [drawn_pace(chance) for turning in paces]))
    return (evens, others)


def drawn_astray():
    chance = random.Random(37)
    told = []
    for size in range(1, 6):
        for length in range(1, 9):
            for trial in range(3):
                pairs = []
                while len(pairs) < length:
                    pool = drawn_heaps(chance, size)
                    pairs = [(one, two) for one in pool for two in pool if one != two]
                pairs = chance.sample(pairs, length)
                told.append(made(list(WORDS[:size]), [(one, two, drawn_pace(chance)) for one, two in pairs]))
    return told


EVENS, OTHERS = drawn_vessels()
DRAWN = [vessel for vessel, base in EVENS] + OTHERS + drawn_astray()

SWAP = vessel_of(2, [("10", "01", 2, 1), ("01", "10", 3, 1)])
LOSS = vessel_of(1, [("1", "0", 1, 1)])
COMING_AND_GOING = vessel_of(1, [("0", "1", 5, 2), ("1", "0", 3, 1)])
RING = vessel_of(3, [("100", "010", 2, 1), ("010", "001", 3, 1), ("001", "100", 5, 1)])
HALL = vessel_of(3, [("210", "003", 1, 2), ("003", "210", 4, 1)])
LONG_SWAP = vessel_of(2, [("10", "01") + LONG, ("01", "10") + LONGER])
# 0, a and 2 a, 3 a: the same change twice, with paces that fit one another and with such that don't.
FITTING = vessel_of(1, [("0", "1", 6, 1), ("1", "0", 2, 1), ("2", "3", 15, 7), ("3", "2", 5, 7)])
UNFITTING = vessel_of(1, [("0", "1", 6, 1), ("1", "0", 2, 1), ("2", "3", 15, 7), ("3", "2", 4, 7)])
# a, b and 2 a, 2 b: the second pair's paces are to be as the squares of the first one's.
SQUARES = vessel_of(2, [("10", "01", 2, 1), ("01", "10", 3, 1), ("20", "02", 4, 5), ("02", "20", 9, 5)])
NO_SQUARES = vessel_of(2, [("10", "01", 2, 1), ("01", "10", 3, 1), ("20", "02", 2, 5), ("02", "20", 3, 5)])
# The same change in three lots: the third one's paces fit the others', and don't.
THRICE = [("10", "01", 2, 1), ("01", "10", 3, 1), ("20", "11", 4, 7), ("11", "20", 6, 7), ("30", "21", 10, 1)]
THREE_LOTS = vessel_of(2, THRICE + [("21", "30", 15, 1)])
THREE_LOTS_BROKEN = vessel_of(2, THRICE + [("21", "30", 14, 1)])
# 0, a, 2 a in one lot, three heaps and one free turning.
THREE_UP = vessel_of(1, [("0", "1", 2, 1), ("1", "2", 3, 1), ("2", "0", 5, 1)])
THREE_UP_EVEN = vessel_of(1, [("0", "1", 1, 1), ("1", "2", 1, 2), ("2", "0", 1, 4)])
# Not back from c; and, were that no matter, the same change twice with paces that don't fit one another.
BOTH_WRONG = vessel_of(3, [("100", "010", 1, 1), ("010", "100", 1, 1), ("200", "110", 1, 1), ("110", "200", 2, 1),
                           ("100", "001", 1, 1)])
GREAT_RINGS = (("00323", "00030", "13101", "32300"), ("31330", "02300", "30103", "33032"))
GREAT_ROW = [111, 254, -1260, 895, -1012, 475, -147, 684]


def great_vessel(paces):
    """A vessel with the lack 1, the numbers of whose row have up to four figures."""
    turnings = []
    for ring in GREAT_RINGS:
        turnings.extend(zip(ring, ring[1:] + ring[:1]))
    return vessel_of(5, [ends + pace for ends, pace in zip(turnings, paces)])


def great_even():
    base = [Fraction(3, 2), Fraction(7, 5), Fraction(1, 3), Fraction(11), Fraction(5, 13)]
    told = []
    for flow, ring in zip((Fraction(10 ** 9 + 7, 3), Fraction(1)), GREAT_RINGS):
        for heap in ring:
            pace = flow / power(base, [int(sign) for sign in heap])
            told.append((pace.numerator, pace.denominator))
    return told


HAND = [SWAP, LOSS, COMING_AND_GOING, RING, HALL, LONG_SWAP, FITTING, UNFITTING, SQUARES, NO_SQUARES, THREE_UP,
        THREE_UP_EVEN, THREE_LOTS, THREE_LOTS_BROKEN, BOTH_WRONG, great_vessel(great_even()),
        great_vessel([LONG, LONGER] * 4)]
ALL = HAND + DRAWN


def ends_of(vessel):
    told = heaps(vessel)
    return [(told.index(one), told.index(two)) for one, two, pace in vessel[1]]


def reached(vessel, heap):
    found = [heap]
    for here in found:
        found.extend([two for one, two in ends_of(vessel) if one == here and two not in found])
    return found


def astray_of(vessel):
    for number, (one, two) in enumerate(ends_of(vessel)):
        if one not in reached(vessel, two):
            return number
    return None


def determinant(rows):
    rows = [list(row) for row in rows]
    total = Fraction(1)
    for place in range(len(rows)):
        heads = [number for number in range(place, len(rows)) if rows[number][place] != 0]
        if not heads:
            return Fraction(0)
        if heads[0] != place:
            rows[place], rows[heads[0]] = rows[heads[0]], rows[place]
            total = -total
        total *= rows[place][place]
        for number in range(place + 1, len(rows)):
            often = rows[number][place] / rows[place][place]
            rows[number] = [one - often * two for one, two in zip(rows[number], rows[place])]
    return total


def weights_of(vessel):
    """The tree weights, by determinants."""
    told = {}
    for lot in lots(vessel):
        for heap in lot:
            others = [other for other in lot if other != heap]
            rows = [[Fraction(0) for two in others] for one in others]
            for (one, two), turning in zip(ends_of(vessel), vessel[1]):
                if one in others:
                    rows[others.index(one)][others.index(one)] += Fraction(*turning[2])
                    if two in others:
                        rows[others.index(one)][others.index(two)] -= Fraction(*turning[2])
            told[heap] = determinant(rows)
    return [told[heap] for heap in sorted(told)]


def rows_of(vessel):
    """Rows of whole numbers that come to 0 in each lot and for each stuff, of which all such come."""
    told = heaps(vessel)
    left = []
    for stuff in range(len(vessel[0])):
        left.append([Fraction(heap[stuff]) for heap in told])
    for lot in lots(vessel):
        left.append([Fraction(number in lot) for number in range(len(told))])
    heads = {}
    for place in range(len(told)):
        fit = [row for row in left if row[place] != 0]
        if fit:
            head = [number / fit[0][place] for number in fit[0]]
            left = [row for row in left if row is not fit[0]]
            left = [[one - row[place] * two for one, two in zip(row, head)] for row in left]
            for other in heads:
                row = heads[other]
                heads[other] = [one - row[place] * two for one, two in zip(row, head)]
            heads[place] = head
    rows = []
    for place in range(len(told)):
        if place not in heads:
            row = [-heads[other][place] if other in heads else Fraction(other == place) for other in range(len(told))]
            bottom = lcm(*[number.denominator for number in row])
            rows.append([int(number * bottom) for number in row])
    return rows


def product_is_1(weights, row):
    top = 1
    bottom = 1
    for weight, often in zip(weights, row):
        if often > 0:
            top *= weight.numerator ** often
            bottom *= weight.denominator ** often
        else:
            top *= weight.denominator ** -often
            bottom *= weight.numerator ** -often
    return top == bottom


def kind_of(vessel):
    """Which of the three answers the point asks for."""
    if astray_of(vessel) is not None:
        return "astray"
    weights = weights_of(vessel)
    if all([product_is_1(weights, row) for row in rows_of(vessel)]):
        return "even"
    return "broken"


KINDS = [(kind_of(vessel), vessel) for vessel in ALL]
EVEN = [vessel for kind, vessel in KINDS if kind == "even"]
BROKEN = [vessel for kind, vessel in KINDS if kind == "broken"]
ASTRAY = [vessel for kind, vessel in KINDS if kind == "astray"]


def pieces_weight(ahead, behind):
    """The products of the numbers from 1 to the pieces ahead, divided by those behind."""
    total = Fraction(1)
    for one, two in zip(ahead, behind):
        for number in range(two + 1, one + 1):
            total *= number
        for number in range(one + 1, two + 1):
            total /= number
    return total


def can(vessel, number, count):
    return all([taken <= pieces for taken, pieces in zip(vessel[1][number][0], count)])


def behind_of(vessel, number, count):
    one, two, pace = vessel[1][number]
    return tuple([pieces - taken + put for pieces, taken, put in zip(count, one, two)])


def gain_of(vessel, row, count):
    """The product of the turnings' gains, one behind the other, by the words of the point."""
    weights = weights_of(vessel)
    ends = ends_of(vessel)
    total = Fraction(1)
    for number in row:
        behind = behind_of(vessel, number, count)
        total *= weights[ends[number][1]] / weights[ends[number][0]] * pieces_weight(count, behind)
        count = behind
    return total


def drawn_row(chance, vessel, count, length):
    row = []
    for step in range(length):
        able = [number for number in range(len(vessel[1])) if can(vessel, number, count)]
        if not able:
            break
        row.append(chance.choice(able))
        count = behind_of(vessel, row[-1], count)
    return row


def drawn_count(chance, vessel, most):
    return tuple([chance.randint(0, most) for stuff in vessel[0]])


def refused(self, error_class, call, *handed):
    with self.assertRaises(VesselError) as caught:
        call(*handed)
    self.assertIs(type(caught.exception), error_class)
    return caught.exception


class TheVesselsAsked(unittest.TestCase):
    def test_they_are_of_all_kinds(self):
        self.assertEqual({(len(vessel[0]), len(vessel[1])) for vessel in ALL},
                         {(size, length) for size in range(1, 6) for length in range(1, 9)})
        for vessel in ALL:
            self.assertLess(max([max(pace) for one, two, pace in vessel[1]]), 10 ** 30)
        self.assertGreater(len(BROKEN), 60)
        self.assertGreater(len(ASTRAY), 80)
        met = {}
        for vessel in EVEN:
            key = (min(lack(vessel), 1), min(len(lots(vessel)), 2))
            met[key] = met.get(key, 0) + 1
        for key in ((0, 1), (0, 2), (1, 1), (1, 2)):
            self.assertGreater(met.get(key, 0), 8, key)
        # The drawn flows make a vessel even-handed, as this file's own reckoning finds.
        self.assertTrue(all([vessel in EVEN for vessel, base in EVENS]))


class Even(unittest.TestCase):
    def check_pair(self, told):
        self.assertIs(type(told), tuple)
        self.assertEqual(len(told), 2)
        self.assertIs(type(told[0]), bool)

    def test_a_turning_that_does_not_lead_back(self):
        for vessel in ASTRAY:
            with self.subTest(vessel=vessel):
                told = even(vessel)
                self.check_pair(told)
                self.assertIs(told[0], False)
                self.assertIs(type(told[1]), int)
                self.assertEqual(told[1], astray_of(vessel))
                self.assertEqual(told[1], first_astray(vessel))

    def test_a_row_that_breaks_the_balance(self):
        for vessel in BROKEN:
            with self.subTest(vessel=vessel):
                told = even(vessel)
                self.check_pair(told)
                self.assertIs(told[0], False)
                row = told[1]
                self.assertIs(type(row), list)
                self.assertEqual(len(row), len(heaps(vessel)))
                for number in row:
                    self.assertIs(type(number), int)
                    self.assertLess(abs(number), 10 ** 6)
                for lot in lots(vessel):
                    self.assertEqual(sum([row[number] for number in lot]), 0)
                for stuff in range(len(vessel[0])):
                    self.assertEqual(sum([number * heap[stuff] for number, heap in zip(row, heaps(vessel))]), 0)
                self.assertFalse(product_is_1(weights_of(vessel), row))

    def test_even_hands(self):
        for vessel in EVEN:
            with self.subTest(vessel=vessel):
                told = even(vessel)
                self.check_pair(told)
                self.assertIs(told[0], True)
                self.assertIs(type(told[1]), list)
                self.assertEqual(told[1], [(weight.numerator, weight.denominator) for weight in weights_of(vessel)])
                self.assertEqual(told[1], tree_weights(vessel))

    def test_by_the_told_rows_of_the_lack(self):
        for vessel in EVEN + BROKEN:
            weights = weights_of(vessel)
            fit = all([product_is_1(weights, row) for row in lack_rows(vessel)])
            self.assertIs(even(vessel)[0], fit, vessel)

    def test_with_no_lack_whatever_the_paces(self):
        chance = random.Random(41)
        met = 0
        for vessel in EVEN + BROKEN:
            if lack(vessel) == 0:
                met += 1
                for trial in range(3):
                    other = with_paces(vessel, [drawn_pace(chance) for turning in vessel[1]])
                    self.assertEqual(even(other), (True, tree_weights(other)), other)
        self.assertGreater(met, 50)

    def test_by_hand(self):
        self.assertEqual(even(SWAP), (True, [(3, 1), (2, 1)]))
        self.assertEqual(even(LOSS), (False, 0))
        self.assertEqual(even(RING), (True, [(15, 1), (10, 1), (6, 1)]))
        self.assertEqual(even(FITTING), (True, [(2, 1), (6, 1), (5, 7), (15, 7)]))
        self.assertEqual(even(SQUARES), (True, [(3, 1), (2, 1), (9, 5), (4, 5)]))
        self.assertEqual(even(THREE_UP_EVEN), (True, [(1, 8), (1, 4), (1, 2)]))
        self.assertEqual(even(LONG_SWAP), (True, [LONGER, LONG]))

    def test_rows_by_hand(self):
        # Up to how often they are taken, these vessels have but one row.
        for vessel, row in ((UNFITTING, [1, -1, -1, 1]), (NO_SQUARES, [2, -2, -1, 1]), (THREE_UP, [1, -2, 1])):
            told = even(vessel)
            self.assertIs(told[0], False)
            often = told[1][0] // row[0]
            self.assertNotEqual(often, 0)
            self.assertEqual(told[1], [often * number for number in row])

    def test_the_turning_goes_ahead_of_the_row(self):
        self.assertEqual(even(BOTH_WRONG), (False, 4))
        # The same without that turning: then the row is told.
        told = even(made(list("abc"), list(BOTH_WRONG[1][:4])))
        self.assertIs(told[0], False)
        self.assertEqual([abs(number) for number in told[1]], [abs(told[1][0])] * 4)

    def test_rows_with_great_numbers(self):
        self.assertEqual(even(great_vessel(great_even()))[0], True)
        paces = great_even()
        for place in range(8):
            top, bottom = paces[place]
            less = Fraction(top, bottom) * Fraction(10 ** 6 - 1, 10 ** 6)
            wrong = list(paces)
            wrong[place] = (less.numerator, less.denominator)
            told = even(great_vessel(wrong))
            self.assertIs(told[0], False)
            often = told[1][0] // 111
            self.assertEqual(told[1], [often * number for number in GREAT_ROW])
            self.assertIn(abs(often), range(1, 800))

    def test_each_row_counts(self):
        self.assertEqual(lack(THREE_LOTS), 2)
        self.assertEqual(even(THREE_LOTS), (True, [(3, 1), (2, 1), (6, 7), (4, 7), (15, 1), (10, 1)]))
        self.assertIs(even(THREE_LOTS_BROKEN)[0], False)
        # The same lots in other orders.
        turnings = THREE_LOTS_BROKEN[1]
        for order in permutations(range(3)):
            rows = [turnings[number] for place in order for number in (2 * place, 2 * place + 1)]
            self.assertIs(even(made(["a", "b"], rows))[0], False)

    def test_a_hair_beside_the_balance(self):
        # The quotients of the paces differ in the thirtieth figure alone.
        near = vessel_of(1, [("0", "1", 1, 1), ("1", "0", 1, 1), ("2", "3") + LONG, ("3", "2", 1, 1)])
        self.assertIs(even(near)[0], False)
        same = vessel_of(1, [("0", "1") + LONG, ("1", "0", 1, 1), ("2", "3") + LONG, ("3", "2", 1, 1)])
        self.assertIs(even(same)[0], True)

    def test_the_told_lists_are_the_askers_own(self):
        for vessel in (SWAP, RING, UNFITTING, NO_SQUARES, THREE_UP, great_vessel([LONG, LONGER] * 4)):
            first = even(vessel)
            again = (first[0], list(first[1]))
            first[1].clear()
            self.assertEqual(even(vessel), again)


class Gain(unittest.TestCase):
    def check_gain(self, vessel, row, count):
        told = gain(vessel, row, count)
        self.assertIs(type(told), tuple)
        self.assertEqual([type(number) for number in told], [int, int])
        self.assertGreater(told[0], 0)
        self.assertGreater(told[1], 0)
        self.assertEqual(gcd(*told), 1)
        expected = gain_of(vessel, row, count)
        self.assertEqual(told, (expected.numerator, expected.denominator))

    def test_one_turning(self):
        chance = random.Random(43)
        for vessel in EVEN:
            with self.subTest(vessel=vessel):
                for count in (drawn_count(chance, vessel, 5), drawn_count(chance, vessel, 10 ** 40 - 1)):
                    for number in range(len(vessel[1])):
                        if can(vessel, number, count):
                            self.check_gain(vessel, [number], count)

    def test_rows(self):
        chance = random.Random(47)
        for vessel in EVEN:
            with self.subTest(vessel=vessel):
                for most in (4, 10 ** 40 - 1):
                    count = drawn_count(chance, vessel, most)
                    row = drawn_row(chance, vessel, count, 6)
                    self.check_gain(vessel, row, count)
                    first = gain(vessel, row[:1], count)
                    rest = gain(vessel, row[1:], walked(vessel, row[:1], count))
                    self.assertEqual(gain(vessel, row, count), times(first, rest))

    def test_as_the_base_tells(self):
        chance = random.Random(53)
        for vessel, base in EVENS:
            with self.subTest(vessel=vessel):
                for most in (6, 10 ** 40 - 1):
                    count = drawn_count(chance, vessel, most)
                    row = drawn_row(chance, vessel, count, 5)
                    behind = walked(vessel, row, count)
                    expected = pieces_weight(count, behind)
                    expected *= power(base, [two - one for one, two in zip(count, behind)])
                    self.assertEqual(gain(vessel, row, count), (expected.numerator, expected.denominator))

    def test_by_hand(self):
        # From 5 a to 4 a and b: 2/3 by the tree weights, 5! by 4! times 1!.
        self.assertEqual(gain(SWAP, [0], (5, 0)), (10, 3))
        self.assertEqual(gain(SWAP, [0, 0], (5, 0)), (40, 9))
        self.assertEqual(gain(SWAP, [0, 1], (5, 0)), (1, 1))
        self.assertEqual(gain(SWAP, [1], (0, 1)), (3, 2))
        self.assertEqual(gain(SWAP, [0], (5, 2)), (10, 9))
        self.assertEqual(gain(COMING_AND_GOING, [0], (0,)), (5, 6))
        self.assertEqual(gain(COMING_AND_GOING, [0, 0], (0,)), (25, 72))
        self.assertEqual(gain(COMING_AND_GOING, [1], (10 ** 39,)), (6 * 10 ** 38 * 2, 1))
        # 4 a + 5 b to 2 a + 4 b + 3 c: 1/8, and 4 3 times 5 by 1 2 3.
        self.assertEqual(gain(HALL, [0], (4, 5, 0)), (5, 4))
        self.assertEqual(gain(FITTING, [2], (2,)), (1, 1))
        # What is put back falls out: 2 a to 3 a weighs like 0 to a.
        self.assertEqual(gain(FITTING, [2], (8,)), (1, 3))
        self.assertEqual(gain(FITTING, [0], (8,)), (1, 3))

    def test_small_counts_by_whole_products(self):
        weights = [Fraction(15), Fraction(10), Fraction(6)]
        for count in ((3, 0, 0), (2, 1, 4), (1, 1, 1), (7, 7, 7)):
            for number, (one, two) in enumerate(((0, 1), (1, 2), (2, 0))):
                if count[one] > 0:
                    behind = list(count)
                    behind[one] -= 1
                    behind[two] += 1
                    expected = weights[two] / weights[one]
                    for ahead, after in zip(count, behind):
                        expected *= Fraction(factorial(ahead), factorial(after))
                    told = gain(RING, [number], count)
                    self.assertEqual(told, (expected.numerator, expected.denominator))

    def test_the_empty_row(self):
        for vessel in EVEN:
            self.assertEqual(gain(vessel, [], (0,) * len(vessel[0])), (1, 1))
            self.assertEqual(gain(vessel, [], (10 ** 40 - 1,) * len(vessel[0])), (1, 1))

    def test_rows_between_the_same_counts(self):
        chance = random.Random(59)
        met = 0
        for vessel in EVEN:
            with self.subTest(vessel=vessel):
                for most in (6, 10 ** 40 - 1):
                    count = drawn_count(chance, vessel, most)
                    gains = {}
                    for trial in range(6):
                        row = drawn_row(chance, vessel, count, chance.randint(1, 4))
                        gains.setdefault(walked(vessel, row, count), {})[tuple(row)] = gain(vessel, row, count)
                    for behind in gains:
                        self.assertEqual(len(set(gains[behind].values())), 1)
                        met += len(gains[behind]) > 1
        self.assertGreater(met, 50)

    def test_the_same_turnings_in_other_orders(self):
        count = (9, 9, 9)
        for vessel in (RING, HALL):
            for row in ((0, 0, 1), (0, 1, 1, 0)):
                told = {gain(vessel, list(other), count) for other in permutations(row)}
                self.assertEqual(len(told), 1)

    def test_there_and_back_and_round(self):
        self.assertEqual(gain(RING, [0, 1, 2], (1, 0, 0)), (1, 1))
        self.assertEqual(gain(RING, [0, 1, 2] * 33, (10 ** 39, 5, 0)), (1, 1))
        self.assertEqual(gain(LONG_SWAP, [0, 1] * 50, (10 ** 40 - 1, 10 ** 40 - 1)), (1, 1))

    def test_a_row_of_a_hundred(self):
        count = (10 ** 40 - 1, 10 ** 39)
        expected = (Fraction(*LONG) / Fraction(*LONGER)) ** 100
        expected *= pieces_weight(count, (count[0] - 100, count[1] + 100))
        self.assertEqual(gain(LONG_SWAP, [0] * 100, count), (expected.numerator, expected.denominator))

    def test_what_is_handed_in_stays_as_it_is(self):
        row = [0, 0, 1]
        gain(SWAP, row, (5, 0))
        self.assertEqual(row, [0, 0, 1])


class AsMuchComesAsGoes(unittest.TestCase):
    def check_balance(self, vessel, count):
        going = (0, 1)
        coming = (0, 1)
        for number, (one, two, pace) in enumerate(vessel[1]):
            going = plus(going, ways(vessel, number, count))
            ahead = tuple([pieces - put + taken for pieces, taken, put in zip(count, one, two)])
            if min(ahead) >= 0 and can(vessel, number, ahead):
                # The weight of the count ahead by the weight of this one.
                quotient = over((1, 1), gain(vessel, [number], ahead))
                coming = plus(coming, times(ways(vessel, number, ahead), quotient))
            elif min(ahead) >= 0:
                self.assertEqual(ways(vessel, number, ahead), (0, 1))
        self.assertEqual(coming, going)
        return going

    def test_at_small_counts_and_at_such_of_forty_figures(self):
        chance = random.Random(61)
        met = 0
        for vessel in EVEN:
            with self.subTest(vessel=vessel):
                counts = [(0,) * len(vessel[0])] + [drawn_count(chance, vessel, most) for most in (1, 2, 4)]
                counts.append(drawn_count(chance, vessel, 10 ** 40 - 1))
                counts.append(tuple([10 ** 40 - 1 for stuff in vessel[0]]))
                for count in counts:
                    met += self.check_balance(vessel, count) != (0, 1)
        self.assertGreater(met, 400)

    def test_everywhere_near_nought(self):
        for vessel in (SWAP, COMING_AND_GOING, FITTING, SQUARES, THREE_UP_EVEN):
            for pieces in range(36):
                self.check_balance(vessel, (pieces % 6, pieces // 6)[:len(vessel[0])])


class GainsRefusals(unittest.TestCase):
    def test_not_even_goes_ahead_of_all_else(self):
        for vessel in BROKEN[:20] + ASTRAY[:20] + [LOSS, UNFITTING, NO_SQUARES, BOTH_WRONG]:
            nought = (0,) * len(vessel[0])
            full = (3,) * len(vessel[0])
            for row, count in (([], nought), ([0], full), ([0], nought), ([99], full), ([-1], nought),
                               ([0, 99], nought), ([99, 0], full)):
                with self.subTest(vessel=vessel, row=row, count=count):
                    refused(self, NotEven, gain, vessel, row, count)

    def test_no_turning(self):
        for row in ([2], [-1], [0, 2], [10 ** 40 - 1], [-10 ** 40 + 1], [1, 1, 0, 2]):
            refused(self, NoTurning, gain, SWAP, row, (5, 5))

    def test_not_now_with_its_place(self):
        self.assertEqual(refused(self, NotNow, gain, SWAP, [0], (0, 5)).at, 0)
        self.assertEqual(refused(self, NotNow, gain, SWAP, [1, 1, 1], (0, 2)).at, 2)
        self.assertEqual(refused(self, NotNow, gain, HALL, [0, 0], (3, 2, 0)).at, 1)
        # Three pieces are needed, though only one is gained.
        self.assertEqual(refused(self, NotNow, gain, FITTING, [0, 2], (0,)).at, 1)

    def test_whichever_comes_first_in_the_row(self):
        refused(self, NoTurning, gain, SWAP, [2, 0], (0, 5))
        refused(self, NoTurning, gain, SWAP, [1, 2, 1, 1, 1], (0, 2))
        self.assertEqual(refused(self, NotNow, gain, SWAP, [0, 2], (0, 5)).at, 0)
        self.assertEqual(refused(self, NotNow, gain, SWAP, [1, 1, 1, -1], (0, 2)).at, 2)

    def test_as_walked_refuses(self):
        chance = random.Random(67)
        met = {NoTurning: 0, NotNow: 0, None: 0}
        for vessel in EVEN:
            for trial in range(4):
                row = [chance.randint(0, len(vessel[1]) - chance.randint(0, 1)) for step in range(3)]
                count = drawn_count(chance, vessel, 4)
                try:
                    walked(vessel, row, count)
                    gain(vessel, row, count)
                    met[None] += 1
                except (NoTurning, NotNow) as error:
                    told = refused(self, type(error), gain, vessel, row, count)
                    self.assertEqual(getattr(told, "at", None), getattr(error, "at", None))
                    met[type(error)] += 1
        self.assertGreater(min(met.values()), 40)


class Shares(unittest.TestCase):
    def check_shares(self, vessel, count):
        told = shares(vessel, count)
        found = comings(vessel, count)
        self.assertIs(type(told), list)
        self.assertEqual([type(pair) for pair in told], [tuple] * len(told))
        self.assertEqual([pair[0] for pair in told], [coming[0] for coming in found])
        for here, share in told:
            self.assertIs(type(here), tuple)
            self.assertIs(type(share), tuple)
            self.assertEqual([type(number) for number in share], [int, int])
            self.assertGreater(share[0], 0)
            self.assertGreater(share[1], 0)
            self.assertEqual(gcd(*share), 1)
        self.assertEqual(sum([Fraction(*share) for here, share in told]), 1)
        for (here, share), (other, row) in zip(told, found):
            self.assertEqual(over(share, told[0][1]), gain(vessel, row, count))
        return told

    def test_they_come_to_1_each_two_as_the_gains_tell(self):
        chance = random.Random(71)
        met = {}
        for vessel in EVEN:
            with self.subTest(vessel=vessel):
                for count in [drawn_count(chance, vessel, most) for most in (0, 1, 2, 3, 6)]:
                    try:
                        comings(vessel, count)
                    except TooMany:
                        continue
                    told = self.check_shares(vessel, count)
                    met[len(told) > 1] = met.get(len(told) > 1, 0) + 1
        self.assertGreater(min(met[True], met[False]), 50)

    def test_two_told_ones_by_a_walk_between_them(self):
        told = shares(SQUARES, (3, 1))
        found = dict(told)
        for one, two in combinations(list(found), 2):
            row = [row for here, row in comings(SQUARES, one) if here == two][0]
            self.assertEqual(times(found[one], gain(SQUARES, row, one)), found[two])

    def test_by_hand(self):
        self.assertEqual(shares(SWAP, (1, 0)), [((1, 0), (3, 5)), ((0, 1), (2, 5))])
        self.assertEqual(shares(SWAP, (0, 1)), [((0, 1), (2, 5)), ((1, 0), (3, 5))])
        self.assertEqual(shares(SWAP, (2, 0)), [((2, 0), (9, 25)), ((1, 1), (12, 25)), ((0, 2), (4, 25))])
        self.assertEqual(shares(SWAP, (0, 0)), [((0, 0), (1, 1))])
        self.assertEqual(
            shares(RING, (1, 0, 0)), [((1, 0, 0), (15, 31)), ((0, 1, 0), (10, 31)), ((0, 0, 1), (6, 31))])
        # 2 a + b and 3 c: 1/8 by the tree weights, 2! times 1! by 3!.
        self.assertEqual(shares(HALL, (2, 1, 0)), [((2, 1, 0), (24, 25)), ((0, 0, 3), (1, 25))])
        self.assertEqual(shares(HALL, (10 ** 39, 0, 2)), [((10 ** 39, 0, 2), (1, 1))])

    def test_the_same_from_wherever_the_walks_begin(self):
        for vessel, count in ((SWAP, (4, 2)), (RING, (3, 1, 0)), (SQUARES, (2, 3)), (HALL, (4, 5, 0))):
            first = dict(shares(vessel, count))
            for here in first:
                told = shares(vessel, here)
                self.assertEqual(told[0][0], here)
                self.assertEqual(dict(told), first)

    def test_at_sixty_counts(self):
        told = self.check_shares(SWAP, (59, 0))
        self.assertEqual(len(told), 60)
        for (one, two), share in told:
            expected = Fraction(3 ** one * 2 ** two * comb(59, two), 5 ** 59)
            self.assertEqual(share, (expected.numerator, expected.denominator))
        self.assertEqual(len(self.check_shares(LONG_SWAP, (20, 39))), 60)
        # Beside 59 pieces that turn, 10 ** 39 pieces that never do.
        beside = vessel_of(3, [("101", "011", 2, 1), ("011", "101", 3, 1)])
        told = self.check_shares(beside, (59, 0, 10 ** 39))
        self.assertEqual([here[2] for here, share in told], [10 ** 39] * 60)

    def test_at_sixty_one_counts(self):
        for vessel, count in ((SWAP, (60, 0)), (SWAP, (30, 30)), (LONG_SWAP, (0, 60))):
            counts = refused(self, TooMany, shares, vessel, count).counts
            self.assertIs(type(counts), list)
            self.assertEqual(len(counts), 61)
            self.assertEqual(counts[0], (count, []))
            self.assertEqual(len({here for here, row in counts}), 61)
            for here, row in counts:
                self.assertEqual(walked(vessel, row, count), here)

    def test_too_many_where_walks_never_end(self):
        for vessel, count in ((COMING_AND_GOING, (0,)), (FITTING, (3,)), (THREE_UP_EVEN, (0,)),
                              (SWAP, (10 ** 40 - 1, 0)), (RING, (10 ** 39, 1, 0))):
            self.assertEqual(len(refused(self, TooMany, shares, vessel, count).counts), 61)

    def test_not_even_goes_ahead_of_too_many(self):
        for vessel in BROKEN[:30] + ASTRAY[:30] + [LOSS, UNFITTING, NO_SQUARES, THREE_UP, BOTH_WRONG]:
            with self.subTest(vessel=vessel):
                for pieces in (0, 1, 60, 10 ** 40 - 1):
                    refused(self, NotEven, shares, vessel, (pieces,) * len(vessel[0]))

    def test_the_told_list_is_the_askers_own(self):
        first = shares(SQUARES, (3, 1))
        again = list(first)
        first.clear()
        self.assertEqual(shares(SQUARES, (3, 1)), again)
        counts = refused(self, TooMany, shares, SWAP, (60, 0)).counts
        counts[1][1].clear()
        counts.clear()
        self.assertEqual(len(refused(self, TooMany, shares, SWAP, (60, 0)).counts[1][1]), 1)


class Refusals(unittest.TestCase):
    def test_not_even_is_a_refusal_of_its_own(self):
        self.assertEqual(errors.NotEven.__bases__, (VesselError,))
        with self.assertRaises(ValueError):
            gain(LOSS, [0], (1,))
        with self.assertRaises(ValueError):
            shares(LOSS, (1,))


if __name__ == "__main__":
    unittest.main()
