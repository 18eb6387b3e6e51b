import random
import unittest
from itertools import combinations

from vesselhall import errors
from vesselhall.drains import drains, guard, traps
from vesselhall.errors import NoDrain, TooMany, VesselError
from vesselhall.vessels import made
from vesselhall.walks import comings

ONE = (1, 1)
LONG = (10 ** 29 + 1, 10 ** 29)
LONGER = (10 ** 30 - 1, 10 ** 29 + 7)
WORDS = ("a", "b", "c", "d", "e")


def vessel_of(size, pairs):
    """A vessel of this many stuffs with these pairs (from, to), each heap a text of figures."""
    paces = (ONE, LONG, (7, 3), LONGER)
    rows = []
    for number, (one, two) in enumerate(pairs):
        rows.append([[int(sign) for sign in one], [int(sign) for sign in two], paces[number % 4]])
    return made(list(WORDS[:size]), rows)


def there_and_back(pairs):
    return [pair for one, two in pairs for pair in ((one, two), (two, one))]


LOSS = vessel_of(1, [("1", "0")])
GAIN = vessel_of(1, [("0", "1")])
DOUBLING = vessel_of(1, [("1", "2")])
HALVING = vessel_of(1, [("3", "1")])
COMING_AND_GOING = vessel_of(1, [("0", "1"), ("3", "0")])
UP_ALONE = vessel_of(1, [("0", "1"), ("0", "3"), ("1", "3")])
SWAP = vessel_of(2, [("10", "01"), ("01", "10")])
ONE_WAY = vessel_of(2, [("10", "01")])
AWAY = vessel_of(2, [("10", "01"), ("01", "00")])
PAIR_OUT = vessel_of(2, [("11", "00")])
TWO_FOR_THREE = vessel_of(2, [("30", "02")])
BESIDE = vessel_of(2, [("10", "11")])
SPREAD = vessel_of(2, [("11", "02"), ("01", "10")])
HUNT = vessel_of(2, [("10", "20"), ("11", "02"), ("01", "00")])
FLASH = vessel_of(2, [("00", "10"), ("21", "30"), ("10", "01"), ("10", "00")])
HALL = vessel_of(3, [("210", "003"), ("003", "210")])
RING = vessel_of(3, [("100", "010"), ("010", "001"), ("001", "100")])
SAME_CHANGES = vessel_of(3, [("100", "010"), ("101", "011"), ("200", "020"), ("010", "100")])
FOUR_RING = vessel_of(4, [("1000", "0100"), ("0100", "0010"), ("0010", "0001"), ("0001", "1000")])
HELPER = vessel_of(4, [("1100", "0010"), ("0010", "1100"), ("0010", "1001")])
SHRINKING = vessel_of(5, [("30000", "02000"), ("03000", "00200"), ("00300", "00020"), ("00030", "00002")])
SHRINKING_RING = vessel_of(3, [("300", "020"), ("030", "002"), ("003", "200")])
GROWING_RING = vessel_of(3, [("200", "030"), ("020", "003"), ("002", "300")])
UNUSED = vessel_of(5, [("10000", "00010"), ("00010", "10000")])
CHAIN = vessel_of(5, there_and_back([("10000", "01000"), ("01000", "00100"), ("00100", "00010"), ("00010", "00001")]))
EIGHT = vessel_of(
    5, [("00000", "10000"), ("10000", "01000"), ("01000", "00100"), ("00100", "00010"), ("00010", "00001"),
        ("00001", "00000"), ("33333", "00000"), ("01000", "33333")])
EIGHT_HEAPS = vessel_of(
    5, [("31020", "02103"), ("10233", "03012"), ("22013", "30121"), ("11302", "03220"), ("03012", "10233"),
        ("30121", "22013"), ("03220", "11302"), ("31020", "03220")])
HAND = (
    LOSS, GAIN, DOUBLING, HALVING, COMING_AND_GOING, UP_ALONE, SWAP, ONE_WAY, AWAY, PAIR_OUT, TWO_FOR_THREE, BESIDE,
    SPREAD, HUNT, FLASH, HALL, RING, SAME_CHANGES, HELPER, SHRINKING, SHRINKING_RING, GROWING_RING, UNUSED, CHAIN,
    EIGHT, EIGHT_HEAPS, FOUR_RING,
)


def random_vessel(chance, size, length):
    signs = chance.choice(("000123", "001", "0123", "03", "0000112", "23"))
    pairs = {}
    while len(pairs) < length:
        # Too few heaps for so many turnings: then others are drawn.
        pool = ["".join([chance.choice(signs) for stuff in range(size)]) for heap in range(chance.randint(2, 8))]
        if chance.randrange(3) == 0:
            pool[0] = "0" * size
        drawn = [(one, two) for one in pool for two in pool if one != two]
        chance.shuffle(drawn)
        if chance.randrange(2) == 0:
            drawn = there_and_back(drawn)
        pairs = dict.fromkeys(drawn[:length])
        signs = "0123"
    return vessel_of(size, list(pairs))


def vessels():
    chance = random.Random(23)
    told = list(HAND)
    for size in range(1, 6):
        for length in range(1, 9):
            told.extend([random_vessel(chance, size, length) for trial in range(8)])
    return told


ALL = vessels()
FAR = 10 ** 39
GREAT = 10 ** 40 - 1
CROSSED = vessel_of(5, [("00011", "11100"), ("11100", "00011"), ("00100", "01000")])


def changes_of(vessel):
    return [[two - one for one, two in zip(turning[0], turning[1])] for turning in vessel[1]]


def sets_of(vessel):
    """All sets of stuffs, shorter ones first, then by their numbers."""
    stuffs = range(len(vessel[0]))
    return [chosen for length in range(1, len(stuffs) + 1) for chosen in combinations(stuffs, length)]


def holds(heap, chosen):
    return sum([heap[stuff] for stuff in chosen]) > 0


def is_drain(vessel, chosen):
    for one, two, pace in vessel[1]:
        if holds(two, chosen) and not holds(one, chosen):
            return False
    return True


def is_trap(vessel, chosen):
    for one, two, pace in vessel[1]:
        if holds(one, chosen) and not holds(two, chosen):
            return False
    return True


def least(vessel, asked):
    """Each set that is such while no smaller one within it is, whether that one is least or not."""
    such = [chosen for chosen in sets_of(vessel) if asked(vessel, chosen)]
    return [chosen for chosen in such if not any([set(other) < set(chosen) for other in such])]


class DrainTest(unittest.TestCase):
    def no_drain(self, vessel, drain):
        with self.assertRaises(NoDrain) as caught:
            guard(vessel, drain)
        error = caught.exception
        self.assertIs(type(error), NoDrain)
        self.assertIsInstance(error, ValueError)
        self.assertIsInstance(error, VesselError)
        for name, other in vars(errors).items():
            if isinstance(other, type) and other.__base__ is VesselError and other is not NoDrain:
                self.assertNotIsInstance(error, other, name)

    def check_sets(self, call, asked):
        lengths = {}
        for vessel in ALL:
            with self.subTest(vessel):
                told = call(vessel)
                self.assertEqual(told, least(vessel, asked))
                self.assertIs(type(told), list)
                for chosen in told:
                    self.assertIs(type(chosen), tuple)
                    self.assertEqual([type(stuff) for stuff in chosen], [int] * len(chosen))
                    lengths[len(chosen)] = True
                lengths[f"{len(told)} told"] = True
        # None, one, several; of one to five stuffs.
        for kind in ("0 told", "1 told", "2 told", "3 told", "4 told", "5 told", 1, 2, 3, 4, 5):
            self.assertIn(kind, lengths)

    def check_own(self, call):
        for vessel in ALL:
            with self.subTest(vessel):
                ahead = repr(vessel)
                first = call(vessel)
                second = call(vessel)
                held = list(first)
                first.append((9,))
                first.clear()
                self.assertEqual(second, held)
                self.assertEqual(call(vessel), held)
                self.assertEqual(repr(vessel), ahead)


class Drains(DrainTest):
    def test_by_hand(self):
        rows = (
            (LOSS, [(0,)]), (GAIN, []), (DOUBLING, [(0,)]), (COMING_AND_GOING, []), (SWAP, [(0, 1)]), (ONE_WAY, [(0,)]),
            (AWAY, [(0,)]), (PAIR_OUT, [(0,), (1,)]), (BESIDE, [(0,)]), (SPREAD, [(1,)]), (HUNT, [(0,), (1,)]),
            (FLASH, []), (HALL, [(0, 2), (1, 2)]), (RING, [(0, 1, 2)]), (SAME_CHANGES, [(2,), (0, 1)]),
            (HELPER, [(0, 2), (1, 2)]), (SHRINKING, [(0,)]), (UNUSED, [(1,), (2,), (4,), (0, 3)]),
            (CHAIN, [(0, 1, 2, 3, 4)]), (EIGHT, []),
            (vessel_of(3, [("100", "010"), ("001", "010")]), [(0,), (2,)]),
            (vessel_of(4, [("0110", "1001"), ("1001", "0110")]), [(0, 1), (0, 2), (1, 3), (2, 3)]),
            (CROSSED, [(0, 3), (0, 4), (2, 3), (2, 4)]),
        )
        for vessel, told in rows:
            with self.subTest(vessel):
                self.assertEqual(drains(vessel), told)

    def test_the_least_ones_in_their_order(self):
        self.check_sets(drains, is_drain)

    def test_the_told_list_is_the_askers_own(self):
        self.check_own(drains)


class Traps(DrainTest):
    def test_by_hand(self):
        rows = (
            (LOSS, []), (GAIN, [(0,)]), (DOUBLING, [(0,)]), (COMING_AND_GOING, []), (SWAP, [(0, 1)]), (ONE_WAY, [(1,)]),
            (AWAY, []), (PAIR_OUT, []), (BESIDE, [(0,), (1,)]), (SPREAD, [(0, 1)]), (HUNT, []), (FLASH, []),
            (HALL, [(0, 2), (1, 2)]), (RING, [(0, 1, 2)]), (SAME_CHANGES, [(2,), (0, 1)]), (HELPER, [(3,), (0, 2)]),
            (SHRINKING, [(4,)]), (UNUSED, [(1,), (2,), (4,), (0, 3)]), (CHAIN, [(0, 1, 2, 3, 4)]), (EIGHT, []),
            (vessel_of(3, [("010", "100"), ("010", "001")]), [(0,), (2,)]),
            (vessel_of(4, [("0110", "1001"), ("1001", "0110")]), [(0, 1), (0, 2), (1, 3), (2, 3)]),
            (CROSSED, [(0, 3), (0, 4), (1, 3), (1, 4)]),
        )
        for vessel, told in rows:
            with self.subTest(vessel):
                self.assertEqual(traps(vessel), told)

    def test_the_least_ones_in_their_order(self):
        self.check_sets(traps, is_trap)

    def test_the_told_list_is_the_askers_own(self):
        self.check_own(traps)


class AlongWalks(DrainTest):
    def counts_of(self, vessel, count):
        """Counts to which walks from a count come, sixty-one where they are more."""
        try:
            return [there for there, walk in comings(vessel, count)]
        except TooMany as refusal:
            return [there for there, walk in refusal.counts]

    def starts(self, vessel):
        chance = random.Random(5)
        size = len(vessel[0])
        return [tuple([chance.choice((0, 0, 1, 3, 6)) for stuff in range(size)]) for trial in range(12)]

    def test_what_of_a_drain_is_gone_stays_gone(self):
        seen = 0
        for vessel in HAND:
            for count in self.starts(vessel):
                gone = [drain for drain in drains(vessel) if not holds(count, drain)]
                for there in self.counts_of(vessel, count) if gone else []:
                    with self.subTest(vessel=vessel, count=count, there=there):
                        self.assertFalse(any([holds(there, drain) for drain in gone]))
                        seen += 1
        self.assertGreater(seen, 100)

    def test_what_of_a_trap_is_there_stays_there(self):
        seen = 0
        for vessel in HAND:
            for count in self.starts(vessel):
                taken = [trap for trap in traps(vessel) if holds(count, trap)]
                for there in self.counts_of(vessel, count) if taken else []:
                    with self.subTest(vessel=vessel, count=count, there=there):
                        self.assertTrue(all([holds(there, trap) for trap in taken]))
                        seen += 1
        self.assertGreater(seen, 100)

    def test_what_is_in_a_guarded_drain_never_goes(self):
        seen = 0
        for vessel in HAND:
            for drain in drains(vessel):
                case, weights = guard(vessel, drain)
                for count in self.starts(vessel) if case else []:
                    worth = sum([weight * pieces for weight, pieces in zip(weights, count)])
                    for there in self.counts_of(vessel, count):
                        with self.subTest(vessel=vessel, drain=drain, count=count, there=there):
                            self.assertEqual(sum([weight * pieces for weight, pieces in zip(weights, there)]), worth)
                            seen += 1
        self.assertGreater(seen, 100)


class Guard(DrainTest):
    def check_guard(self, vessel, drain):
        told = guard(vessel, drain)
        self.assertIs(type(told), tuple)
        self.assertEqual(len(told), 2)
        self.assertIs(type(told[0]), bool)
        self.assertIs(type(told[1]), list)
        self.assertEqual([type(number) for number in told[1]], [int] * len(vessel[0] if told[0] else vessel[1]))
        self.assertLess(max([abs(number) for number in told[1]]), 10 ** 60)
        if told[0]:
            self.assertGreaterEqual(min(told[1]), 0)
            self.assertGreater(max([told[1][stuff] for stuff in drain]), 0)
            others = [weight for stuff, weight in enumerate(told[1]) if stuff not in drain]
            self.assertEqual(others, [0] * len(others))
            for row in changes_of(vessel):
                self.assertEqual(sum([weight * number for weight, number in zip(told[1], row)]), 0)
        else:
            for stuff in drain:
                self.assertGreater(sum([many * row[stuff] for many, row in zip(told[1], changes_of(vessel))]), 0)
        return told[0]

    def test_by_hand(self):
        rows = (
            (LOSS, (0,), False), (DOUBLING, (0,), False), (SWAP, (0, 1), True), (ONE_WAY, (0,), False),
            (ONE_WAY, (0, 1), True), (AWAY, (0,), False), (AWAY, (0, 1), False), (PAIR_OUT, (0,), False),
            (PAIR_OUT, (1,), False), (PAIR_OUT, (0, 1), False), (TWO_FOR_THREE, (0, 1), True), (BESIDE, (0,), True),
            (BESIDE, (0, 1), True), (SPREAD, (1,), False), (SPREAD, (0, 1), True), (HUNT, (0,), False),
            (HUNT, (0, 1), False), (HALL, (0, 2), True), (HALL, (1, 2), True), (HALL, (0, 1, 2), True),
            (RING, (0, 1, 2), True), (SAME_CHANGES, (2,), True), (SAME_CHANGES, (0, 1), True), (HELPER, (0, 2), True),
            (HELPER, (1, 2), False), (HELPER, (1, 2, 3), True), (SHRINKING, (0,), False),
            (SHRINKING, (0, 1, 2, 3), False), (SHRINKING, (0, 1, 2, 3, 4), True), (UNUSED, (1,), True),
            (UNUSED, (4,), True), (UNUSED, (0, 3), True), (UNUSED, (0, 1, 3), True), (CHAIN, (0, 1, 2, 3, 4), True),
            (vessel_of(2, [("10", "00"), ("01", "03")]), (0,), False),
            (vessel_of(2, [("10", "00"), ("01", "03")]), (0, 1), False),
            (vessel_of(2, [("30", "00"), ("11", "31")]), (0,), False),
            (vessel_of(3, [("110", "220"), ("001", "200")]), (0, 2), False),
        )
        for vessel, drain, case in rows:
            with self.subTest(vessel=vessel, drain=drain):
                self.assertIs(self.check_guard(vessel, drain), case)

    def test_the_only_weights(self):
        # All such weights are so many times these.
        for vessel, drain, row in (
            (ONE_WAY, (0, 1), [1, 1]), (TWO_FOR_THREE, (0, 1), [2, 3]), (BESIDE, (0, 1), [1, 0]),
            (HALL, (0, 2), [3, 0, 2]), (HALL, (1, 2), [0, 3, 1]), (HELPER, (1, 2, 3), [0, 1, 1, 1]),
            (SHRINKING, (0, 1, 2, 3, 4), [16, 24, 36, 54, 81]), (UNUSED, (2,), [0, 0, 1, 0, 0]),
        ):
            with self.subTest(vessel=vessel, drain=drain):
                case, weights = guard(vessel, drain)
                self.assertIs(case, True)
                self.assertEqual([weight * sum(row) for weight in weights], [number * sum(weights) for number in row])

    def test_each_drain_least_or_not(self):
        cases = {}
        for vessel in ALL:
            told = drains(vessel)
            for chosen in sets_of(vessel):
                if is_drain(vessel, chosen):
                    with self.subTest(vessel=vessel, drain=chosen):
                        case = self.check_guard(vessel, chosen)
                        kind = (case, chosen in told, len(chosen))
                        cases[kind] = cases.get(kind, 0) + 1
        for case in (True, False):
            self.assertGreater(sum([many for kind, many in cases.items() if kind[:2] == (case, True)]), 20)
            self.assertGreater(sum([many for kind, many in cases.items() if kind[:2] == (case, False)]), 20)
            self.assertEqual({kind[2] for kind in cases if kind[0] == case}, {1, 2, 3, 4, 5})

    def test_sets_that_are_no_drains(self):
        seen = 0
        for vessel in ALL:
            for chosen in sets_of(vessel):
                if not is_drain(vessel, chosen):
                    seen += 1
                    with self.subTest(vessel=vessel, chosen=chosen):
                        self.no_drain(vessel, chosen)
        self.assertGreater(seen, 100)

    def test_tuples_that_are_no_sets(self):
        for vessel in HAND:
            size = len(vessel[0])
            wrong = [(), (-1,), (size,), (size + 1,), (-size,), (-size - 1,), (FAR,), (-FAR,), (GREAT,), (-GREAT,)]
            wrong.extend([tuple(range(size + 1)), tuple(range(-1, size)), tuple(range(100)), (0,) * 100])
            wrong.extend([(0, size), (0, FAR), (-1, 0), (-GREAT, 0), (0, 0), (0, size - 1, size - 1), (0, -1)])
            for drain in drains(vessel) + [tuple(range(size))]:
                wrong.extend([drain + (size,), (-1,) + drain, drain + (drain[-1],), (drain[0],) + drain])
                wrong.extend([drain + (drain[0],), (drain[-1],) + drain, drain + (GREAT,), drain + (5,), drain + (99,)])
                if len(drain) > 1:
                    wrong.extend([drain[::-1], drain[1:] + drain[:1], drain[-1:] + drain[:-1]])
            for drain in wrong:
                with self.subTest(vessel=vessel, drain=drain):
                    self.no_drain(vessel, drain)

    def test_the_told_list_is_the_askers_own(self):
        for vessel in ALL:
            for chosen in sets_of(vessel):
                if not is_drain(vessel, chosen):
                    continue
                with self.subTest(vessel=vessel, drain=chosen):
                    ahead = repr((vessel, chosen))
                    first = guard(vessel, chosen)
                    second = guard(vessel, chosen)
                    held = (first[0], list(first[1]))
                    first[1][0] = -99
                    first[1].clear()
                    self.assertEqual(second, held)
                    self.assertEqual(guard(vessel, chosen), held)
                    self.assertEqual(repr((vessel, chosen)), ahead)

    def test_lists_changed_behind_the_making(self):
        words = ["a", "b", "c"]
        rows = [[[2, 1, 0], [0, 0, 3], (1, 2)], [[0, 0, 3], [2, 1, 0], (4, 1)]]
        vessel = made(words, rows)
        first = (drains(vessel), traps(vessel), guard(vessel, (0, 2)))
        rows[0][0][0] = 0
        rows[1].clear()
        rows.clear()
        words.clear()
        self.assertEqual((drains(vessel), traps(vessel), guard(vessel, (0, 2))), first)
        self.assertEqual(first[:2], ([(0, 2), (1, 2)], [(0, 2), (1, 2)]))


if __name__ == "__main__":
    unittest.main()
