import random
import unittest
from fractions import Fraction
from itertools import combinations
from math import gcd

from vesselhall import trees
from vesselhall.fractions import before, plus, times
from vesselhall.ties import first_astray, lots, road
from vesselhall.trees import tree_weights
from vesselhall.vessels import heaps, made

ONE = (1, 1)
LONG = (10 ** 29 + 1, 10 ** 29)
LONGER = (10 ** 30 - 1, 10 ** 29 + 7)
WORDS = ("a", "b", "c", "d", "e")


def vessel_of(size, pairs):
    """A vessel of this many stuffs with these pairs (from, to), each heap a text of figures."""
    paces = (ONE, LONG, (7, 3), LONGER)
    rows = []
    for number, (one, two) in enumerate(pairs):
        rows.append([[int(sign) for sign in one], [int(sign) for sign in two], paces[number % 4]])
    return made(list(WORDS[:size]), rows)


def there_and_back(pairs):
    return [pair for one, two in pairs for pair in ((one, two), (two, one))]


LOSS = vessel_of(1, [("1", "0")])
GAIN = vessel_of(1, [("0", "1")])
DOUBLING = vessel_of(1, [("1", "2")])
HALVING = vessel_of(1, [("3", "1")])
COMING_AND_GOING = vessel_of(1, [("0", "1"), ("3", "0")])
UP_ALONE = vessel_of(1, [("0", "1"), ("0", "3"), ("1", "3")])
SWAP = vessel_of(2, [("10", "01"), ("01", "10")])
ONE_WAY = vessel_of(2, [("10", "01")])
AWAY = vessel_of(2, [("10", "01"), ("01", "00")])
PAIR_OUT = vessel_of(2, [("11", "00")])
TWO_FOR_THREE = vessel_of(2, [("30", "02")])
BESIDE = vessel_of(2, [("10", "11")])
SPREAD = vessel_of(2, [("11", "02"), ("01", "10")])
HUNT = vessel_of(2, [("10", "20"), ("11", "02"), ("01", "00")])
FLASH = vessel_of(2, [("00", "10"), ("21", "30"), ("10", "01"), ("10", "00")])
HALL = vessel_of(3, [("210", "003"), ("003", "210")])
RING = vessel_of(3, [("100", "010"), ("010", "001"), ("001", "100")])
SAME_CHANGES = vessel_of(3, [("100", "010"), ("101", "011"), ("200", "020"), ("010", "100")])
FOUR_RING = vessel_of(4, [("1000", "0100"), ("0100", "0010"), ("0010", "0001"), ("0001", "1000")])
HELPER = vessel_of(4, [("1100", "0010"), ("0010", "1100"), ("0010", "1001")])
SHRINKING = vessel_of(5, [("30000", "02000"), ("03000", "00200"), ("00300", "00020"), ("00030", "00002")])
SHRINKING_RING = vessel_of(3, [("300", "020"), ("030", "002"), ("003", "200")])
GROWING_RING = vessel_of(3, [("200", "030"), ("020", "003"), ("002", "300")])
UNUSED = vessel_of(5, [("10000", "00010"), ("00010", "10000")])
CHAIN = vessel_of(5, there_and_back([("10000", "01000"), ("01000", "00100"), ("00100", "00010"), ("00010", "00001")]))
EIGHT = vessel_of(
    5, [("00000", "10000"), ("10000", "01000"), ("01000", "00100"), ("00100", "00010"), ("00010", "00001"),
        ("00001", "00000"), ("33333", "00000"), ("01000", "33333")])
EIGHT_HEAPS = vessel_of(
    5, [("31020", "02103"), ("10233", "03012"), ("22013", "30121"), ("11302", "03220"), ("03012", "10233"),
        ("30121", "22013"), ("03220", "11302"), ("31020", "03220")])
HAND = (
    LOSS, GAIN, DOUBLING, HALVING, COMING_AND_GOING, UP_ALONE, SWAP, ONE_WAY, AWAY, PAIR_OUT, TWO_FOR_THREE, BESIDE,
    SPREAD, HUNT, FLASH, HALL, RING, SAME_CHANGES, HELPER, SHRINKING, SHRINKING_RING, GROWING_RING, UNUSED, CHAIN,
    EIGHT, EIGHT_HEAPS, FOUR_RING,
)


def random_vessel(chance, size, length):
    signs = chance.choice(("000123", "001", "0123", "03", "0000112", "23"))
    pairs = {}
    while len(pairs) < length:
        # Too few heaps for so many turnings: then others are drawn.
        pool = ["".join([chance.choice(signs) for stuff in range(size)]) for heap in range(chance.randint(2, 8))]
        if chance.randrange(3) == 0:
            pool[0] = "0" * size
        drawn = [(one, two) for one in pool for two in pool if one != two]
        chance.shuffle(drawn)
        if chance.randrange(2) == 0:
            drawn = there_and_back(drawn)
        pairs = dict.fromkeys(drawn[:length])
        signs = "0123"
    return vessel_of(size, list(pairs))


def vessels():
    chance = random.Random(23)
    told = list(HAND)
    for size in range(1, 6):
        for length in range(1, 9):
            told.extend([random_vessel(chance, size, length) for trial in range(8)])
    return told


ALL = vessels()


def ends_of(vessel):
    told = heaps(vessel)
    return [(told.index(one), told.index(two)) for one, two, pace in vessel[1]]


def lot_of(vessel, heap):
    return [lot for lot in lots(vessel) if heap in lot][0]


def leads(picked, one, two):
    """Whether the picked ends lead from heap one to heap two."""
    found = [one]
    for here in found:
        found.extend([end[1] for end in picked if end[0] == here and end[1] not in found])
    return two in found


def trees_one_by_one(vessel, heap):
    """All trees to a heap: of all rows of so many turnings those that are one."""
    ends = ends_of(vessel)
    others = [other for other in lot_of(vessel, heap) if other != heap]
    told = []
    for chosen in combinations(range(len(ends)), len(others)):
        picked = [ends[number] for number in chosen]
        if sorted([end[0] for end in picked]) == others and all([leads(picked, other, heap) for other in others]):
            told.append(chosen)
    return told


def weight_one_by_one(vessel, heap):
    total = Fraction(0)
    for chosen in trees_one_by_one(vessel, heap):
        product = Fraction(1)
        for number in chosen:
            product *= Fraction(*vessel[1][number][2])
        total += product
    return total


def determinant(rows):
    rows = [list(row) for row in rows]
    total = Fraction(1)
    for place in range(len(rows)):
        heads = [number for number in range(place, len(rows)) if rows[number][place] != 0]
        if not heads:
            return Fraction(0)
        if heads[0] != place:
            rows[place], rows[heads[0]] = rows[heads[0]], rows[place]
            total = -total
        total *= rows[place][place]
        for number in range(place + 1, len(rows)):
            times_taken = rows[number][place] / rows[place][place]
            rows[number] = [one - times_taken * two for one, two in zip(rows[number], rows[place])]
    return total


def weight_by_determinant(vessel, heap):
    """The same weight without a single tree: what goes from the other heaps less what goes between them."""
    others = [other for other in lot_of(vessel, heap) if other != heap]
    rows = [[Fraction(0) for two in others] for one in others]
    for (one, two), turning in zip(ends_of(vessel), vessel[1]):
        pace = Fraction(*turning[2])
        if one in others:
            rows[others.index(one)][others.index(one)] += pace
            if two in others:
                rows[others.index(one)][others.index(two)] -= pace
    return determinant(rows)


class TreeWeights(unittest.TestCase):
    def test_they_are_lists_of_fractions(self):
        for vessel in ALL:
            with self.subTest(vessel=vessel):
                told = tree_weights(vessel)
                self.assertIs(type(told), list)
                self.assertEqual(len(told), len(heaps(vessel)))
                for weight in told:
                    self.assertIs(type(weight), tuple)
                    self.assertEqual([type(number) for number in weight], [int, int])
                    self.assertGreaterEqual(weight[0], 0)
                    self.assertGreaterEqual(weight[1], 1)
                    self.assertEqual(gcd(*weight), 1)

    def test_they_come_of_all_trees_one_by_one(self):
        several = 0
        for vessel in ALL:
            with self.subTest(vessel=vessel):
                for heap, weight in enumerate(tree_weights(vessel)):
                    self.assertEqual(Fraction(*weight), weight_one_by_one(vessel, heap))
                    self.assertEqual(Fraction(*weight), weight_by_determinant(vessel, heap))
                    several += len(trees_one_by_one(vessel, heap)) > 1
        self.assertGreater(several, 100)

    def test_at_each_heap_as_much_comes_as_goes(self):
        for vessel in ALL:
            with self.subTest(vessel=vessel):
                weights = tree_weights(vessel)
                coming = [(0, 1)] * len(weights)
                going = [(0, 1)] * len(weights)
                for (one, two), turning in zip(ends_of(vessel), vessel[1]):
                    flow = times(turning[2], weights[one])
                    going[one] = plus(going[one], flow)
                    coming[two] = plus(coming[two], flow)
                self.assertEqual(coming, going)

    def test_they_are_0_just_where_no_tree_leads_to_the_heap(self):
        met = {True: 0, False: 0}
        for vessel in ALL:
            with self.subTest(vessel=vessel):
                for heap, weight in enumerate(tree_weights(vessel)):
                    reached = all([road(vessel, other, heap) is not None for other in lot_of(vessel, heap)])
                    met[reached] += 1
                    self.assertEqual(before((0, 1), weight), reached)
                    if not reached:
                        self.assertEqual(weight, (0, 1))
        self.assertGreater(min(met.values()), 300)

    def test_they_are_above_0_where_all_turnings_lead_back(self):
        met = 0
        for vessel in ALL:
            if first_astray(vessel) is None:
                met += 1
                self.assertTrue(all([before((0, 1), weight) for weight in tree_weights(vessel)]), vessel)
        self.assertGreater(met, 20)

    def test_the_told_list_is_the_askers_own(self):
        for vessel in (LOSS, RING, CHAIN, EIGHT, EIGHT_HEAPS):
            first = tree_weights(vessel)
            again = list(first)
            first.clear()
            self.assertEqual(tree_weights(vessel), again)


class ByHand(unittest.TestCase):
    def rows(self, size, turnings):
        rows = []
        for one, two, pace in turnings:
            rows.append([[int(sign) for sign in one], [int(sign) for sign in two], pace])
        return made(list(WORDS[:size]), rows)

    def test_one_turning(self):
        self.assertEqual(tree_weights(self.rows(1, [("1", "0", (3, 7))])), [(0, 1), (3, 7)])

    def test_two_turnings_there_and_back(self):
        vessel = self.rows(2, [("10", "01", (2, 1)), ("01", "10", (3, 5))])
        self.assertEqual(tree_weights(vessel), [(3, 5), (2, 1)])

    def test_a_ring_weighs_by_the_other_turnings(self):
        vessel = self.rows(3, [("100", "010", (2, 1)), ("010", "001", (3, 1)), ("001", "100", (5, 1))])
        self.assertEqual(tree_weights(vessel), [(15, 1), (10, 1), (6, 1)])

    def test_all_six_turnings_between_three_heaps(self):
        vessel = self.rows(3, [
            ("100", "010", (1, 2)), ("010", "100", (1, 3)), ("010", "001", (1, 5)), ("001", "010", (1, 7)),
            ("001", "100", (1, 11)), ("100", "001", (1, 13))])
        one = Fraction(1, 3) * Fraction(1, 11) + Fraction(1, 3) * Fraction(1, 7) + Fraction(1, 5) * Fraction(1, 11)
        two = Fraction(1, 2) * Fraction(1, 7) + Fraction(1, 2) * Fraction(1, 11) + Fraction(1, 13) * Fraction(1, 7)
        three = Fraction(1, 13) * Fraction(1, 5) + Fraction(1, 13) * Fraction(1, 3) + Fraction(1, 2) * Fraction(1, 5)
        told = [(weight.numerator, weight.denominator) for weight in (one, two, three)]
        self.assertEqual(tree_weights(vessel), told)

    def test_each_lot_has_its_own_trees(self):
        vessel = self.rows(2, [
            ("10", "01", (2, 1)), ("20", "02", (7, 1)), ("01", "10", (3, 1)), ("02", "20", (1, 11))])
        self.assertEqual(tree_weights(vessel), [(3, 1), (2, 1), (1, 11), (7, 1)])

    def test_they_stand_in_the_order_of_the_heaps(self):
        # The lots are [0, 1, 4] and [2, 3]: the heaps of the first do not stand side by side.
        vessel = self.rows(2, [
            ("00", "01", (2, 1)), ("10", "11", (7, 1)), ("01", "02", (3, 1)), ("02", "00", (5, 1)),
            ("11", "10", (11, 1))])
        self.assertEqual(tree_weights(vessel), [(15, 1), (10, 1), (11, 1), (7, 1), (6, 1)])
        vessel = self.rows(1, [("0", "1", (2, 1)), ("2", "3", (5, 1)), ("3", "0", (7, 1))])
        self.assertEqual(tree_weights(vessel), [(0, 1), (70, 1), (0, 1), (0, 1)])

    def test_nowhere_to_come_together(self):
        # From a two turnings lead apart: no heap is led to from all others.
        vessel = self.rows(3, [("100", "010", (2, 1)), ("100", "001", (3, 1))])
        self.assertEqual(tree_weights(vessel), [(0, 1), (0, 1), (0, 1)])

    def test_two_ways_from_one_heap(self):
        vessel = self.rows(3, [("100", "010", (2, 1)), ("100", "001", (3, 1)), ("010", "001", (5, 1))])
        self.assertEqual(tree_weights(vessel), [(0, 1), (0, 1), (25, 1)])

    def test_a_round_that_does_not_lead_there_is_no_tree(self):
        # a and b turn into one another, and b into c: the picks a -> b, b -> a do not lead to c.
        vessel = self.rows(3, [("100", "010", (2, 1)), ("010", "100", (3, 1)), ("010", "001", (5, 1))])
        self.assertEqual(tree_weights(vessel), [(0, 1), (0, 1), (10, 1)])

    def test_paces_of_many_figures(self):
        told = tree_weights(self.rows(2, [("10", "01", LONG), ("01", "10", LONGER)]))
        self.assertEqual(told, [LONGER, LONG])
        ring = [("100", "010", LONG), ("010", "001", LONGER), ("001", "100", LONG)]
        both = Fraction(*LONG) * Fraction(*LONGER)
        square = Fraction(*LONG) ** 2
        self.assertEqual(
            tree_weights(self.rows(3, ring)),
            [(weight.numerator, weight.denominator) for weight in (both, square, both)])


@unittest.skipUnless(hasattr(trees, "tree_weight"), "the program's own name")
class ALotOfOneHeap(unittest.TestCase):
    def test_its_weight_is_1(self):
        # No vessel has such a lot, for each heap stands in a turning beside another one.
        self.assertEqual(trees.tree_weight(SWAP[1], ends_of(SWAP), [0], 0), (1, 1))


if __name__ == "__main__":
    unittest.main()
