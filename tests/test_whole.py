"""Point 4: what the program tells of one and the same vessel fits together."""

import random
import unittest
from fractions import Fraction
from itertools import combinations

from vesselhall.desk import Desk
from vesselhall.drains import drains, guard, traps
from vesselhall.errors import NotEven, NotNow, TooMany
from vesselhall.even import even, gain, shares
from vesselhall.fractions import before, over, plus, times
from vesselhall.lack import lack, lack_rows
from vesselhall.sums import free, kept, rounds
from vesselhall.texts import read, written
from vesselhall.ties import first_astray, lots, road
from vesselhall.trees import tree_weights
from vesselhall.vessels import change, heaps, made
from vesselhall.walks import comings, walked, ways
from vesselhall.weights import keeping, returning, sheltered

WORDS = ("a", "b", "c", "d", "e")
TEXTS = (
    (["a"], ["a -> 0 @ 1"]),
    (["a"], ["0 -> a @ 5/2", "a -> 0 @ 3"]),
    (["a"], ["0 -> a @ 6", "a -> 0 @ 2", "2 a -> 3 a @ 15/7", "3 a -> 2 a @ 5/7"]),
    (["a"], ["0 -> a @ 6", "a -> 0 @ 2", "2 a -> 3 a @ 15/7", "3 a -> 2 a @ 4/7"]),
    (["a"], ["0 -> a @ 1", "a -> 2 a @ 1/2", "2 a -> 0 @ 1/4"]),
    (["a", "b"], ["a -> b @ 2", "b -> a @ 3"]),
    (["a", "b"], ["a + b -> 2 b @ 1", "b -> a @ 1"]),
    (["a", "b"], ["a -> 2 a @ 1", "a + b -> 2 b @ 1/3", "b -> 0 @ 2"]),
    (["a", "b"], ["a -> b @ 2", "b -> a @ 3", "2 a -> 2 b @ 4/5", "2 b -> 2 a @ 9/5"]),
    (["a", "b"], ["a -> b @ 2", "b -> a @ 3", "2 a -> 2 b @ 4/5", "2 b -> 2 a @ 8/5"]),
    (["a", "b", "c"], ["2 a + b -> 3 c @ 1/2", "3 c -> 2 a + b @ 4"]),
    (["a", "b", "c"], ["a -> b @ 2", "b -> c @ 3", "c -> a @ 5"]),
    (["a", "b", "c"], ["a -> b @ 1", "c -> 2 c @ 1", "2 c -> b + c @ 1", "b + c -> c @ 1"]),
    (["e", "s", "es", "p"], ["e + s -> es @ 7", "es -> e + s @ 1/9", "es -> e + p @ 999999999999999999999999999999"]),
    (["a", "b", "c", "d", "e"], ["3 a -> 2 b @ 1", "3 b -> 2 c @ 1", "3 c -> 2 d @ 1", "3 d -> 2 e @ 1"]),
    (["a", "b", "c", "d", "e"],
     ["a -> b @ 1", "b -> a @ 2", "b -> c @ 3", "c -> b @ 4", "c -> d @ 5", "d -> c @ 6", "d -> e @ 7", "e -> d @ 8"]),
)


def drawn_heaps(chance, size):
    signs = chance.choice(((0, 0, 0, 1, 2, 3), (0, 0, 1), (0, 1, 2, 3), (0, 3), (0, 0, 0, 0, 1, 1, 2)))
    pool = [tuple([chance.choice(signs) for stuff in range(size)]) for heap in range(chance.randint(2, 8))]
    return list(dict.fromkeys(pool))


def drawn_pace(chance):
    pace = Fraction(chance.randint(1, 10 ** chance.choice((1, 5, 30)) - 1), chance.randint(1, 10 ** 30 - 1))
    return (pace.numerator, pace.denominator)


def drawn_vessel(chance, size, length):
    pairs = []
    while len(pairs) < length:
        pool = drawn_heaps(chance, size)
        pairs = [(one, two) for one in pool for two in pool if one != two]
    if chance.randrange(2) == 0:
        pairs = chance.sample(pairs, length)
    else:
        # Turnings there and back, as far as their number allows it.
        halves = chance.sample([pair for pair in pairs if pair[0] < pair[1]], (length + 1) // 2)
        pairs = [pair for one, two in halves for pair in ((one, two), (two, one))][:length]
    return made(list(WORDS[:size]), [(one, two, drawn_pace(chance)) for one, two in pairs])


def fitting(vessel, base):
    """The same turnings with paces that hold one another in balance, where each leads straight back."""
    rows = []
    for one, two, pace in vessel[1]:
        weight = Fraction(1)
        for number, often in zip(base, one):
            weight *= number ** often
        rows.append((one, two, (weight.denominator, weight.numerator)))
    return made(list(vessel[0]), rows)


def vessels():
    chance = random.Random(79)
    told = [read(words, texts) for words, texts in TEXTS]
    for size in range(1, 6):
        for length in range(1, 9):
            for trial in range(4):
                vessel = drawn_vessel(chance, size, length)
                told.append(vessel)
                if trial == 0:
                    base = [Fraction(chance.randint(1, 9), chance.randint(1, 9)) for stuff in range(size)]
                    told.append(fitting(vessel, base))
    return told


ALL = vessels()
EVEN = [vessel for vessel in ALL if even(vessel)[0]]


def with_paces(vessel, paces):
    return made(list(vessel[0]), [(one, two, pace) for (one, two, old), pace in zip(vessel[1], paces)])


def rank(rows):
    left = [[Fraction(number) for number in row] for row in rows]
    found = 0
    for place in range(len(rows[0]) if rows else 0):
        heads = [row for row in left if row[place] != 0]
        if heads:
            head = heads[0]
            left = [row for row in left if row is not head]
            left = [[one - two * row[place] / head[place] for one, two in zip(row, head)] for row in left]
            found += 1
    return found


def comes_of(row, rows):
    return rank(rows + [row]) == rank(rows)


def worth(row, pieces):
    return sum([number * piece for number, piece in zip(row, pieces)])


def changes_of(vessel):
    return [change(vessel, number) for number in range(len(vessel[1]))]


def come_to(vessel, numbers):
    return [worth(numbers, stuff) for stuff in zip(*changes_of(vessel))]


def drawn_walk(chance, vessel, count, length):
    """The counts of a walk, from the count on, and its row."""
    told = [count]
    row = []
    for step in range(length):
        able = [number for number in range(len(vessel[1])) if before((0, 1), ways(vessel, number, told[-1]))]
        if not able:
            break
        row.append(chance.choice(able))
        told.append(walked(vessel, row[-1:], told[-1]))
    return (told, row)


def walks(vessel, seed):
    chance = random.Random(seed)
    told = []
    for most in (1, 3, 8, 10 ** 39):
        count = tuple([chance.randint(0, most) for stuff in vessel[0]])
        told.append(drawn_walk(chance, vessel, count, 12))
    return told


class OneVessel(unittest.TestCase):
    def each(self):
        for number, vessel in enumerate(ALL):
            yield number, vessel

    def test_the_vessels_asked_are_of_all_kinds(self):
        self.assertEqual({(len(vessel[0]), len(vessel[1])) for vessel in ALL},
                         {(size, length) for size in range(1, 6) for length in range(1, 9)})
        met = {}
        for vessel in ALL:
            key = (first_astray(vessel) is None, even(vessel)[0], min(lack(vessel), 1))
            met[key] = met.get(key, 0) + 1
        for key in ((True, True, 0), (True, True, 1), (True, False, 1), (False, False, 0), (False, False, 1)):
            self.assertGreater(met.get(key, 0), 4, key)
        self.assertEqual(met.get((True, False, 0), 0), 0)
        self.assertGreater(len([vessel for vessel in ALL if len(lots(vessel)) > 1]), 20)

    def test_texts(self):
        for words, texts in TEXTS:
            self.assertEqual(written(read(words, texts)), texts)
        for number, vessel in self.each():
            self.assertEqual(read(list(vessel[0]), written(vessel)), vessel)
            desk = Desk(list(vessel[0]))
            for text in written(vessel):
                desk.put(text)
            self.assertEqual(desk.vessel(), vessel)

    def test_kept_sums_and_rounds_are_all_there_are(self):
        for number, vessel in self.each():
            rows = changes_of(vessel)
            self.assertEqual(len(free(vessel)), rank(rows))
            self.assertEqual(rank([rows[place] for place in free(vessel)]), len(free(vessel)))
            self.assertEqual(len(kept(vessel)), len(vessel[0]) - rank(rows))
            self.assertEqual(rank(kept(vessel)), len(kept(vessel)))
            self.assertEqual(len(rounds(vessel)), len(rows) - rank(rows))
            self.assertEqual(rank(rounds(vessel)), len(rounds(vessel)))
            for numbers in rounds(vessel):
                self.assertEqual(come_to(vessel, numbers), [0] * len(vessel[0]))
            for told in kept(vessel):
                self.assertEqual([worth(told, row) for row in rows], [0] * len(rows))

    def test_along_every_walk_the_kept_sums_stay(self):
        for number, vessel in self.each():
            for counts, row in walks(vessel, number):
                for told in kept(vessel):
                    self.assertEqual(len({worth(told, count) for count in counts}), 1)

    def test_a_walk_that_comes_back_is_a_round(self):
        met = 0
        for number, vessel in self.each():
            for counts, row in walks(vessel, number):
                for one, two in combinations(range(len(counts)), 2):
                    if counts[one] == counts[two]:
                        times_made = [row[one:two].count(turning) for turning in range(len(vessel[1]))]
                        self.assertTrue(comes_of(times_made, rounds(vessel)))
                        met += 1
        self.assertGreater(met, 200)

    def test_weights_along_every_walk(self):
        for number, vessel in self.each():
            shelter = sheltered(vessel)
            keep = keeping(vessel)
            for counts, row in walks(vessel, number):
                for one, two in zip(counts, counts[1:]):
                    if shelter[0]:
                        self.assertLessEqual(worth(shelter[1], two), worth(shelter[1], one))
                    if keep[0]:
                        self.assertEqual(worth(keep[1], two), worth(keep[1], one))

    def test_either_the_one_or_the_other(self):
        met = {}
        for number, vessel in self.each():
            rows = changes_of(vessel)
            shelter, keep, back = sheltered(vessel), keeping(vessel), returning(vessel)
            for name, told in (("sheltered", shelter), ("keeping", keep), ("returning", back)):
                met[(name, told[0])] = met.get((name, told[0]), 0) + 1
            for told in (shelter, keep):
                if told[0]:
                    self.assertGreaterEqual(min(told[1]), 1)
                else:
                    grown = come_to(vessel, told[1])
                    self.assertGreaterEqual(min(grown), 0)
                    self.assertGreater(max(grown), 0)
            if shelter[0]:
                self.assertLessEqual(max([worth(shelter[1], row) for row in rows]), 0)
            else:
                self.assertGreaterEqual(min(shelter[1]), 0)
            if keep[0]:
                self.assertTrue(comes_of(keep[1], kept(vessel)))
            if back[0]:
                self.assertGreaterEqual(min(back[1]), 1)
                self.assertTrue(comes_of(back[1], rounds(vessel)))
            else:
                raised = [worth(back[1], row) for row in rows]
                self.assertGreaterEqual(min(raised), 0)
                self.assertGreater(max(raised), 0)
        self.assertGreater(min(met.values()), 10)
        self.assertEqual(len(met), 6)

    def test_how_the_weights_hang_together(self):
        for number, vessel in self.each():
            # Weights that are kept are not raised, and where all turnings lead back they are a round together.
            if keeping(vessel)[0]:
                self.assertIs(sheltered(vessel)[0], True)
            if first_astray(vessel) is None:
                self.assertIs(returning(vessel)[0], True)
            # With a round of all turnings, weights that no turning raises are kept.
            if returning(vessel)[0]:
                self.assertEqual(sheltered(vessel)[0], keeping(vessel)[0])

    def test_what_of_a_drain_is_gone_stays_gone_and_what_of_a_trap_is_there_stays_there(self):
        for number, vessel in self.each():
            chance = random.Random(number)
            for chosen in drains(vessel):
                count = tuple([0 if stuff in chosen else chance.randint(0, 9) for stuff in range(len(vessel[0]))])
                for here in drawn_walk(chance, vessel, count, 12)[0]:
                    self.assertEqual([here[stuff] for stuff in chosen], [0] * len(chosen))
            for chosen in traps(vessel):
                for counts, row in walks(vessel, number):
                    there = [sum([count[stuff] for stuff in chosen]) > 0 for count in counts]
                    self.assertEqual(there, sorted(there))

    def test_the_least_drains_and_traps(self):
        for number, vessel in self.each():
            for told, one, two in ((drains(vessel), 0, 1), (traps(vessel), 1, 0)):
                such = []
                for length in range(1, len(vessel[0]) + 1):
                    for chosen in combinations(range(len(vessel[0])), length):
                        holds = [[any([heap[stuff] for stuff in chosen]) for heap in turning[:2]]
                                 for turning in vessel[1]]
                        if all([pair[one] or not pair[two] for pair in holds]):
                            if not any([set(smaller) < set(chosen) for smaller in such]):
                                such.append(chosen)
                self.assertEqual(told, such)

    def test_guards(self):
        for number, vessel in self.each():
            for chosen in drains(vessel):
                told = guard(vessel, chosen)
                if told[0]:
                    self.assertTrue(comes_of(told[1], kept(vessel)))
                    self.assertGreater(worth(told[1], [stuff in chosen for stuff in range(len(vessel[0]))]), 0)
                else:
                    self.assertGreater(min([come_to(vessel, told[1])[stuff] for stuff in chosen]), 0)
                if keeping(vessel)[0] and chosen == tuple(range(len(vessel[0]))):
                    self.assertIs(told[0], True)

    def test_the_lack(self):
        for number, vessel in self.each():
            told = heaps(vessel)
            self.assertEqual(lack(vessel), len(told) - len(lots(vessel)) - len(free(vessel)))
            self.assertEqual(len(lack_rows(vessel)), lack(vessel))
            self.assertGreaterEqual(lack(vessel), 0)
            for row in lack_rows(vessel):
                for lot in lots(vessel):
                    self.assertEqual(sum([row[heap] for heap in lot]), 0)
                self.assertEqual([worth(row, stuff) for stuff in zip(*told)], [0] * len(vessel[0]))

    def test_tree_weights_hold_the_paces_in_balance(self):
        for number, vessel in self.each():
            told = heaps(vessel)
            weights = tree_weights(vessel)
            for heap in range(len(told)):
                coming = (0, 1)
                going = (0, 1)
                for one, two, pace in vessel[1]:
                    if told.index(two) == heap:
                        coming = plus(coming, times(pace, weights[told.index(one)]))
                    if told.index(one) == heap:
                        going = plus(going, times(pace, weights[heap]))
                self.assertEqual(coming, going)
                lot = [lot for lot in lots(vessel) if heap in lot][0]
                led_to = all([road(vessel, other, heap) is not None for other in lot])
                self.assertEqual(before((0, 1), weights[heap]), led_to)

    def test_even_hands(self):
        for number, vessel in self.each():
            told = even(vessel)
            count = (1,) * len(vessel[0])
            if told[0]:
                self.assertEqual(told[1], tree_weights(vessel))
                self.assertIsNone(first_astray(vessel))
                self.assertEqual(gain(vessel, [], count), (1, 1))
            else:
                self.assertRaises(NotEven, gain, vessel, [], count)
                self.assertRaises(NotEven, shares, vessel, count)
                if first_astray(vessel) is not None:
                    self.assertEqual(told[1], first_astray(vessel))
                else:
                    self.assertTrue(comes_of(told[1], lack_rows(vessel)))
            if first_astray(vessel) is None and lack(vessel) == 0:
                self.assertIs(told[0], True)

    def test_along_walks_of_even_handed_vessels_as_much_comes_as_goes(self):
        for number, vessel in enumerate(EVEN):
            for counts, row in walks(vessel, number):
                count = counts[-1]
                going = (0, 1)
                coming = (0, 1)
                for turning, (one, two, pace) in enumerate(vessel[1]):
                    going = plus(going, ways(vessel, turning, count))
                    ahead = tuple([pieces - put + taken for pieces, taken, put in zip(count, one, two)])
                    if min(ahead) >= 0 and before((0, 1), ways(vessel, turning, ahead)):
                        weight = over((1, 1), gain(vessel, [turning], ahead))
                        coming = plus(coming, times(ways(vessel, turning, ahead), weight))
                self.assertEqual(coming, going)

    def test_shares_are_held_by_the_walks(self):
        met = 0
        for number, vessel in enumerate(EVEN):
            for pieces in (1, 2, 3):
                count = tuple([pieces] + [1] * (len(vessel[0]) - 1))
                try:
                    found = dict(shares(vessel, count))
                except TooMany as error:
                    self.assertEqual(len(error.counts), 61)
                    self.assertRaises(TooMany, comings, vessel, count)
                    continue
                self.assertEqual(list(found), [here for here, row in comings(vessel, count)])
                met += len(found) > 1
                # What the shares bring together is what they take away, count by count.
                flows = dict.fromkeys(found, Fraction(0))
                for here in found:
                    for turning in range(len(vessel[1])):
                        flow = Fraction(*times(found[here], ways(vessel, turning, here)))
                        if flow > 0:
                            flows[here] -= flow
                            flows[walked(vessel, [turning], here)] += flow
                self.assertEqual(set(flows.values()), {Fraction(0)})
        self.assertGreater(met, 20)

    def test_a_desk_walks_as_the_vessel_does(self):
        for number, vessel in self.each():
            desk = Desk(list(vessel[0]))
            texts = written(vessel)
            for text in texts:
                desk.put(text)
            counts, row = walks(vessel, number)[2]
            for word, pieces in zip(vessel[0], counts[0]):
                desk.pour(word, pieces)
            for place, turning in enumerate(row):
                desk.turn(texts[turning])
                self.assertEqual(desk.count(), list(zip(vessel[0], counts[place + 1])))
            for turning in range(len(texts)):
                try:
                    walked(vessel, [turning], counts[-1])
                except NotNow:
                    self.assertRaises(NotNow, desk.turn, texts[turning])


class OtherPaces(unittest.TestCase):
    def test_they_change_no_heap_lot_free_turning_lack_drain_or_trap(self):
        chance = random.Random(83)
        for vessel in ALL:
            other = with_paces(vessel, [drawn_pace(chance) for turning in vessel[1]])
            for asked in (heaps, lots, free, lack, drains, traps, first_astray, changes_of):
                self.assertEqual(asked(other), asked(vessel), asked.__name__)
            for asked in (kept, rounds, lack_rows):
                self.assertEqual(len(asked(other)), len(asked(vessel)), asked.__name__)
            for asked in (sheltered, keeping, returning):
                self.assertEqual(asked(other)[0], asked(vessel)[0], asked.__name__)

    def test_all_paces_so_many_times_are_as_even_as_they_were(self):
        for vessel in ALL:
            other = with_paces(vessel, [times(pace, (3, 1)) for one, two, pace in vessel[1]])
            told = even(vessel)
            self.assertEqual(even(other)[0], told[0])
            if told[0]:
                for counts, row in walks(vessel, 5):
                    self.assertEqual(gain(other, row, counts[0]), gain(vessel, row, counts[0]))


class OtherOrderOfTurnings(unittest.TestCase):
    """Beside each vessel another with the same turnings, and for each turning's number the one it has there."""

    def pairs(self):
        chance = random.Random(89)
        for vessel in ALL:
            places = list(range(len(vessel[1])))
            chance.shuffle(places)
            other = made(list(vessel[0]), [vessel[1][place] for place in places])
            order = [places.index(place) for place in range(len(places))]
            yield vessel, other, order

    def test_heaps_and_lots(self):
        for vessel, other, order in self.pairs():
            self.assertEqual(sorted(heaps(other)), sorted(heaps(vessel)))
            told = []
            for one in (vessel, other):
                told.append(sorted([sorted([heaps(one)[heap] for heap in lot]) for lot in lots(one)]))
            self.assertEqual(told[0], told[1])
            for number in range(len(order)):
                self.assertEqual(change(other, order[number]), change(vessel, number))

    def test_roads(self):
        for vessel, other, order in self.pairs():
            told = heaps(vessel)
            for one in range(len(told)):
                for two in range(len(told)):
                    first = road(vessel, one, two)
                    second = road(other, heaps(other).index(told[one]), heaps(other).index(told[two]))
                    self.assertEqual(first is None, second is None)
                    self.assertEqual(len(first or []), len(second or []))
            self.assertEqual(first_astray(other) is None, first_astray(vessel) is None)

    def test_how_many_there_are(self):
        for vessel, other, order in self.pairs():
            self.assertEqual(lack(other), lack(vessel))
            for asked in (free, kept, rounds, lack_rows):
                self.assertEqual(len(asked(other)), len(asked(vessel)), asked.__name__)
            # The told ones of the one come of those of the other.
            for told in kept(vessel):
                self.assertTrue(comes_of(told, kept(other)))
            for told in rounds(vessel):
                self.assertTrue(comes_of([told[order.index(number)] for number in range(len(told))], rounds(other)))

    def test_drains_traps_and_weights(self):
        for vessel, other, order in self.pairs():
            self.assertEqual(drains(other), drains(vessel))
            self.assertEqual(traps(other), traps(vessel))
            for asked in (sheltered, keeping, returning):
                self.assertEqual(asked(other)[0], asked(vessel)[0], asked.__name__)
            for chosen in drains(vessel):
                self.assertEqual(guard(other, chosen)[0], guard(vessel, chosen)[0])

    def test_tree_weights_and_even_hands(self):
        for vessel, other, order in self.pairs():
            told = dict(zip(heaps(vessel), tree_weights(vessel)))
            self.assertEqual(dict(zip(heaps(other), tree_weights(other))), told)
            self.assertEqual(even(other)[0], even(vessel)[0])

    def test_walks_gains_and_shares(self):
        for vessel, other, order in self.pairs():
            for counts, row in walks(vessel, 7):
                again = [order[number] for number in row]
                self.assertEqual(walked(other, again, counts[0]), counts[-1])
                for number in range(len(order)):
                    self.assertEqual(ways(other, order[number], counts[-1]), ways(vessel, number, counts[-1]))
                if vessel in EVEN:
                    self.assertEqual(gain(other, again, counts[0]), gain(vessel, row, counts[0]))
            count = (2,) + (1,) * (len(vessel[0]) - 1)
            if vessel in EVEN:
                try:
                    told = shares(vessel, count)
                    self.assertEqual(dict(shares(other, count)), dict(told))
                except TooMany:
                    self.assertRaises(TooMany, shares, other, count)


class OtherOrderOfStuffs(unittest.TestCase):
    """Beside each vessel another with the same stuffs, and what brings numbers for them into the order there."""

    def pairs(self):
        chance = random.Random(97)
        for vessel in ALL:
            places = list(range(len(vessel[0])))
            chance.shuffle(places)

            def moved(numbers, places=places):
                return tuple([numbers[place] for place in places])

            rows = [(moved(one), moved(two), pace) for one, two, pace in vessel[1]]
            yield vessel, made(list(moved(vessel[0])), rows), moved

    def test_heaps_lots_and_roads(self):
        for vessel, other, moved in self.pairs():
            self.assertEqual(heaps(other), [moved(heap) for heap in heaps(vessel)])
            self.assertEqual(lots(other), lots(vessel))
            self.assertEqual(first_astray(other), first_astray(vessel))
            self.assertEqual(changes_of(other), [moved(row) for row in changes_of(vessel)])
            for one in range(len(heaps(vessel))):
                self.assertEqual(len(road(other, one, 0) or []), len(road(vessel, one, 0) or []))

    def test_sums_rounds_and_lack(self):
        for vessel, other, moved in self.pairs():
            self.assertEqual(free(other), free(vessel))
            self.assertEqual(lack(other), lack(vessel))
            for asked in (kept, rounds, lack_rows):
                self.assertEqual(len(asked(other)), len(asked(vessel)), asked.__name__)
            for told in kept(vessel):
                self.assertTrue(comes_of(moved(told), kept(other)))
            for asked in (rounds, lack_rows):
                for told in asked(vessel):
                    self.assertTrue(comes_of(told, asked(other)), asked.__name__)

    def test_drains_traps_and_weights(self):
        for vessel, other, moved in self.pairs():
            for asked in (drains, traps):
                words = []
                for one in (vessel, other):
                    words.append(sorted([sorted([one[0][stuff] for stuff in chosen]) for chosen in asked(one)]))
                self.assertEqual(words[0], words[1])
            for asked in (sheltered, keeping, returning):
                self.assertEqual(asked(other)[0], asked(vessel)[0], asked.__name__)

    def test_tree_weights_and_even_hands(self):
        for vessel, other, moved in self.pairs():
            self.assertEqual(tree_weights(other), tree_weights(vessel))
            self.assertEqual(even(other)[0], even(vessel)[0])

    def test_walks_gains_and_shares(self):
        for vessel, other, moved in self.pairs():
            for counts, row in walks(vessel, 11):
                self.assertEqual(walked(other, row, moved(counts[0])), moved(counts[-1]))
                for number in range(len(vessel[1])):
                    self.assertEqual(ways(other, number, moved(counts[-1])), ways(vessel, number, counts[-1]))
                if vessel in EVEN:
                    self.assertEqual(gain(other, row, moved(counts[0])), gain(vessel, row, counts[0]))
            count = (2,) + (1,) * (len(vessel[0]) - 1)
            if vessel in EVEN:
                try:
                    told = [(moved(here), share) for here, share in shares(vessel, count)]
                    self.assertEqual(shares(other, moved(count)), told)
                except TooMany:
                    self.assertRaises(TooMany, shares, other, moved(count))


class AskedAgain(unittest.TestCase):
    def told_of(self, vessel, count):
        told = []
        for asked in (heaps, written, lots, free, kept, rounds, sheltered, keeping, returning, drains, traps, lack,
                      lack_rows, tree_weights, even, first_astray):
            told.append(asked(vessel))
        for asked in (comings, shares):
            try:
                told.append(asked(vessel, count))
            except TooMany as error:
                told.append(error.counts)
            except NotEven:
                told.append(None)
        return told

    def emptied(self, thing):
        if isinstance(thing, (list, tuple)):
            for part in thing:
                self.emptied(part)
        if isinstance(thing, list):
            thing.clear()

    def test_the_same_is_told_whatever_was_done_with_the_lists(self):
        for vessel in ALL:
            count = (2,) * len(vessel[0])
            kept_text = repr(vessel)
            first = self.told_of(vessel, count)
            text = repr(first)
            self.emptied(first)
            self.assertEqual(repr(self.told_of(vessel, count)), text)
            self.assertEqual(repr(vessel), kept_text)


if __name__ == "__main__":
    unittest.main()
