import random
import unittest

from vesselhall import errors
from vesselhall.errors import NoHeap, VesselError
from vesselhall.ties import first_astray, lots, road
from vesselhall.vessels import heaps, made

ONE = (1, 1)
FAR = 10 ** 39
GREAT = 10 ** 40 - 1
HEAPS = ((0, 0), (1, 0), (0, 1), (3, 2), (2, 3), (1, 1), (0, 3), (3, 3))


def vessel_of(pairs):
    """A vessel with these pairs of numbers of heaps, one for each turning."""
    vessel = made(["a", "b"], [[HEAPS[one], HEAPS[two], (number + 1, 1)] for number, (one, two) in enumerate(pairs)])
    assert numbers_of(vessel) == list(pairs)
    return vessel


def numbers_of(vessel):
    told = heaps(vessel)
    return [(told.index(turning[0]), told.index(turning[1])) for turning in vessel[1]]


# In each the numbers first stand in their order, as those of a vessel's heaps do.
CHAIN = ((0, 1), (1, 2), (2, 3), (3, 4), (4, 5), (5, 6), (6, 7))
RING = CHAIN + ((7, 0),)
BACKWARD = ((0, 1), (2, 0), (3, 2), (4, 3), (5, 4), (6, 5), (7, 6))
FOUR_LOTS = ((0, 1), (2, 3), (4, 5), (6, 7))
STAR = ((0, 1), (0, 2), (0, 3), (1, 0), (2, 0), (3, 0), (1, 2), (2, 1))
SHAPES = (
    ((0, 1),), ((0, 1), (1, 0)), ((0, 1), (0, 2)), ((0, 1), (2, 1)), ((0, 1), (1, 2), (2, 0)), ((0, 1), (2, 3)),
    ((0, 1), (2, 3), (3, 1)), ((0, 1), (2, 3), (4, 1)), ((0, 1), (2, 3), (2, 4), (0, 5)), ((0, 1), (2, 3), (1, 2)),
    ((0, 1), (2, 3), (3, 2), (1, 4)), ((0, 1), (1, 2), (0, 2)), ((0, 1), (1, 2), (2, 3), (0, 3), (3, 0)),
    CHAIN, RING, BACKWARD, FOUR_LOTS, STAR,
    FOUR_LOTS + ((1, 2), (5, 6), (3, 4)), FOUR_LOTS + ((0, 7), (2, 5)), FOUR_LOTS + ((7, 0), (5, 2), (6, 4), (3, 1)),
    ((0, 1), (2, 3), (4, 5), (4, 3), (5, 0)), ((0, 1), (1, 0), (2, 3), (3, 2), (4, 5), (5, 4)),
)


def random_shape(chance):
    pairs = []
    while len(pairs) < chance.randint(1, 8):
        pair = (chance.randrange(8), chance.randrange(8))
        if pair[0] != pair[1] and pair not in pairs:
            pairs.append(pair)
    names = {}
    for pair in pairs:
        for name in pair:
            names.setdefault(name, len(names))
    return tuple([(names[one], names[two]) for one, two in pairs])


def shapes():
    chance = random.Random(17)
    return SHAPES + tuple([random_shape(chance) for trial in range(200)])


def size_of(pairs):
    return 1 + max([max(pair) for pair in pairs])


def tied(pairs):
    """The lots: each heap's own, joined until no tie joins two of them."""
    sets = [{number} for number in range(size_of(pairs))]
    for one, two in pairs * size_of(pairs):
        joined = [lot for lot in sets if one in lot or two in lot]
        sets = [lot for lot in sets if lot not in joined] + [set().union(*joined)]
    return sorted([sorted(lot) for lot in sets])


def distances(pairs):
    """The fewest turnings from each heap to each, None where no road leads there."""
    size = size_of(pairs)
    told = {(one, two): 0 if one == two else None for one in range(size) for two in range(size)}
    for length in range(size):
        for start in range(size):
            for one, two in pairs:
                if told[start, one] == length and told[start, two] is None:
                    told[start, two] = length + 1
    return told


class TieTest(unittest.TestCase):
    def no_heap(self, vessel, one, two):
        with self.assertRaises(NoHeap) as caught:
            road(vessel, one, two)
        error = caught.exception
        self.assertIs(type(error), NoHeap)
        self.assertIsInstance(error, ValueError)
        self.assertIsInstance(error, VesselError)
        for name, other in vars(errors).items():
            if isinstance(other, type) and other.__base__ is VesselError and other is not NoHeap:
                self.assertNotIsInstance(error, other, name)


class Lots(TieTest):
    def test_by_hand(self):
        rows = (
            (((0, 1),), [[0, 1]]),
            (((0, 1), (2, 3)), [[0, 1], [2, 3]]),
            (((0, 1), (2, 1)), [[0, 1, 2]]),
            (((0, 1), (0, 2)), [[0, 1, 2]]),
            (((0, 1), (2, 3), (4, 1)), [[0, 1, 4], [2, 3]]),
            (((0, 1), (2, 3), (2, 4), (0, 5)), [[0, 1, 5], [2, 3, 4]]),
            (((0, 1), (2, 3), (3, 1)), [[0, 1, 2, 3]]),
            (((0, 1), (2, 3), (1, 2)), [[0, 1, 2, 3]]),
            (FOUR_LOTS, [[0, 1], [2, 3], [4, 5], [6, 7]]),
            (FOUR_LOTS + ((0, 7), (2, 5)), [[0, 1, 6, 7], [2, 3, 4, 5]]),
            (FOUR_LOTS + ((7, 0), (5, 2)), [[0, 1, 6, 7], [2, 3, 4, 5]]),
            (FOUR_LOTS + ((6, 4), (3, 5)), [[0, 1], [2, 3, 4, 5, 6, 7]]),
            (FOUR_LOTS + ((1, 2), (5, 6), (3, 4)), [[0, 1, 2, 3, 4, 5, 6, 7]]),
            (CHAIN, [[0, 1, 2, 3, 4, 5, 6, 7]]),
            (BACKWARD, [[0, 1, 2, 3, 4, 5, 6, 7]]),
            (RING, [[0, 1, 2, 3, 4, 5, 6, 7]]),
        )
        for pairs, told in rows:
            with self.subTest(pairs):
                self.assertEqual(lots(vessel_of(pairs)), told)

    def test_heaps_not_in_the_order_of_their_pieces(self):
        vessel = made(["a"], [[[3], [1], ONE], [[2], [0], ONE]])
        self.assertEqual(lots(vessel), [[0, 1], [2, 3]])
        vessel = made(["a"], [[[3], [1], ONE], [[2], [0], ONE], [[0], [3], ONE]])
        self.assertEqual(lots(vessel), [[0, 1, 2, 3]])

    def test_all_shapes(self):
        several = 0
        for pairs in shapes():
            with self.subTest(pairs):
                told = lots(vessel_of(pairs))
                self.assertEqual(told, tied(pairs))
                self.assertIs(type(told), list)
                self.assertEqual([type(lot) for lot in told], [list] * len(told))
                self.assertEqual([type(number) for lot in told for number in lot], [int] * size_of(pairs))
                several += len(told) > 1
        self.assertGreater(several, 50)

    def test_the_told_lists_are_the_askers_own(self):
        for pairs in SHAPES:
            with self.subTest(pairs):
                vessel = vessel_of(pairs)
                first = lots(vessel)
                second = lots(vessel)
                for lot in first:
                    lot.clear()
                first.clear()
                self.assertEqual(second, tied(pairs))
                self.assertEqual(lots(vessel), tied(pairs))
                self.assertEqual(vessel, vessel_of(pairs))


class Road(TieTest):
    def check_road(self, pairs, one, two, told):
        self.assertIs(type(told), list)
        self.assertEqual([type(number) for number in told], [int] * len(told))
        here = one
        for number in told:
            self.assertIn(number, range(len(pairs)))
            self.assertEqual(pairs[number][0], here)
            here = pairs[number][1]
        self.assertEqual(here, two)

    def test_by_hand(self):
        chain = vessel_of(CHAIN)
        self.assertEqual(road(chain, 0, 7), [0, 1, 2, 3, 4, 5, 6])
        self.assertEqual(road(chain, 2, 5), [2, 3, 4])
        self.assertEqual(road(chain, 6, 7), [6])
        self.assertIsNone(road(chain, 7, 0))
        self.assertIsNone(road(chain, 1, 0))
        ring = vessel_of(RING)
        self.assertEqual(road(ring, 7, 0), [7])
        self.assertEqual(road(ring, 6, 1), [6, 7, 0])
        self.assertEqual(road(ring, 1, 0), [1, 2, 3, 4, 5, 6, 7])
        backward = vessel_of(BACKWARD)
        self.assertEqual(road(backward, 7, 1), [6, 5, 4, 3, 2, 1, 0])
        self.assertIsNone(road(backward, 0, 2))
        four = vessel_of(FOUR_LOTS)
        self.assertEqual(road(four, 4, 5), [2])
        self.assertIsNone(road(four, 5, 4))
        self.assertIsNone(road(four, 0, 3))

    def test_from_a_heap_to_itself(self):
        for pairs in shapes():
            vessel = vessel_of(pairs)
            for number in range(size_of(pairs)):
                with self.subTest(pairs=pairs, number=number):
                    told = road(vessel, number, number)
                    self.assertEqual(told, [])
                    self.assertIs(type(told), list)

    def test_the_fewest_turnings(self):
        # Roads of one, two and three turnings from heap 0 to heap 3, the longer ones first and then last.
        long_first = ((0, 1), (1, 2), (2, 3), (1, 3), (0, 3))
        self.assertEqual(road(vessel_of(long_first), 0, 3), [4])
        self.assertEqual(road(vessel_of(long_first), 1, 3), [3])
        self.assertEqual(road(vessel_of(long_first[:4]), 0, 3), [0, 3])
        self.assertEqual(road(vessel_of(long_first[:3]), 0, 3), [0, 1, 2])
        short_first = ((0, 1), (0, 2), (2, 3), (3, 1), (2, 1))
        self.assertEqual(road(vessel_of(short_first), 0, 1), [0])
        self.assertEqual(road(vessel_of(short_first), 2, 1), [4])
        # Two roads of two turnings: either may be told.
        self.assertIn(road(vessel_of(((0, 1), (0, 2), (1, 3), (2, 3))), 0, 3), ([0, 2], [1, 3]))

    def test_all_shapes(self):
        for pairs in shapes():
            vessel = vessel_of(pairs)
            for (one, two), length in distances(pairs).items():
                with self.subTest(pairs=pairs, one=one, two=two):
                    told = road(vessel, one, two)
                    if length is None:
                        self.assertIsNone(told)
                    else:
                        self.check_road(pairs, one, two, told)
                        self.assertEqual(len(told), length)
                    self.assertEqual(road(vessel, one, two), told)

    def test_numbers_that_are_no_heaps(self):
        for pairs in SHAPES:
            vessel = vessel_of(pairs)
            size = size_of(pairs)
            for number in (-1, size, size + 1, -size, -size - 1, 8, 9, 100, -100, FAR, -FAR, GREAT, -GREAT):
                with self.subTest(pairs=pairs, number=number):
                    for right in (0, size - 1):
                        self.no_heap(vessel, number, right)
                        self.no_heap(vessel, right, number)
                    self.no_heap(vessel, number, number)
                    self.no_heap(vessel, number, -1)
                    self.no_heap(vessel, size, number)

    def test_the_told_list_is_the_askers_own(self):
        for pairs in SHAPES:
            vessel = vessel_of(pairs)
            for (one, two), length in distances(pairs).items():
                if length is None:
                    continue
                with self.subTest(pairs=pairs, one=one, two=two):
                    first = road(vessel, one, two)
                    second = road(vessel, one, two)
                    kept = list(first)
                    first.append(9)
                    first.clear()
                    self.assertEqual(second, kept)
                    self.assertEqual(road(vessel, one, two), kept)


class FirstAstray(TieTest):
    def test_by_hand(self):
        rows = (
            (((0, 1),), 0),
            (((0, 1), (1, 0)), None),
            (((0, 1), (1, 2)), 0),
            (((0, 1), (1, 0), (1, 2)), 2),
            (((0, 1), (0, 2), (2, 0)), 0),
            (((0, 1), (1, 0), (0, 2), (2, 3), (3, 2)), 2),
            (((0, 1), (1, 2), (2, 0)), None),
            (((0, 1), (1, 2), (2, 0), (2, 3)), 3),
            (((0, 1), (1, 2), (2, 0), (3, 2)), 3),
            (((0, 1), (2, 1), (1, 2)), 0),
            (((0, 1), (1, 0), (2, 3), (3, 2)), None),
            (((0, 1), (1, 0), (2, 3), (3, 2), (1, 2)), 4),
            (((0, 1), (1, 0), (2, 3), (3, 2), (1, 2), (3, 0)), None),
            (((0, 1), (1, 0), (2, 3), (4, 5), (5, 4)), 2),
            (((0, 1), (2, 1)), 0),
            (CHAIN, 0), (BACKWARD, 0), (RING, None), (FOUR_LOTS, 0), (STAR, None),
        )
        for pairs, told in rows:
            with self.subTest(pairs):
                self.assertEqual(first_astray(vessel_of(pairs)), told)

    def test_a_turning_back_at_each_place(self):
        # Turnings there and back, of which one has none back.
        for place in range(4):
            pairs = []
            for number in range(4):
                pairs.append((2 * number, 2 * number + 1))
                if number != place:
                    pairs.append((2 * number + 1, 2 * number))
            with self.subTest(place):
                told = first_astray(vessel_of(tuple(pairs)))
                self.assertIs(type(told), int)
                self.assertEqual(told, 2 * place)

    def test_all_shapes(self):
        told_numbers = {}
        for pairs in shapes():
            with self.subTest(pairs):
                lengths = distances(pairs)
                astray = [number for number, (one, two) in enumerate(pairs) if lengths[two, one] is None]
                vessel = vessel_of(pairs)
                told = first_astray(vessel)
                self.assertEqual(told, astray[0] if astray else None)
                self.assertIs(type(told), int if astray else type(None))
                self.assertEqual(first_astray(vessel), told)
                told_numbers[told] = True
        self.assertGreater(len(told_numbers), 3)


if __name__ == "__main__":
    unittest.main()
