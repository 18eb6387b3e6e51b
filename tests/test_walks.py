import random
import unittest
from fractions import Fraction
from math import gcd

from vesselhall import errors
from vesselhall.errors import NotNow, NoTurning, TooMany, VesselError
from vesselhall.vessels import made
from vesselhall.walks import comings, walked, ways

ONE = (1, 1)
FAR = 10 ** 39
GREAT = 10 ** 40 - 1

# 2 a + b -> 3 c @ 1/2, 3 c -> 2 a + b @ 4, a -> a + b @ 2/3, b + c -> c @ 5: the last two need what they put back.
HALL = made(
    ["a", "b", "c"],
    [
        [[2, 1, 0], [0, 0, 3], (1, 2)], [[0, 0, 3], [2, 1, 0], (4, 1)],
        [[1, 0, 0], [1, 1, 0], (2, 3)], [[0, 1, 1], [0, 0, 1], (5, 1)],
    ],
)
# 3 a + 2 b + c -> d @ 7/6, of each number of pieces one.
FOUR = made(["a", "b", "c", "d"], [[[3, 2, 1, 0], [0, 0, 0, 1], (7, 6)], [[0, 0, 0, 1], [3, 2, 1, 0], ONE]])
LOSS = made(["a"], [[[1], [0], ONE]])
GAIN = made(["a"], [[[0], [1], ONE]])
TWO_LOSSES = made(["a", "b"], [[[1, 0], [0, 0], ONE], [[0, 1], [0, 0], (2, 1)]])
SWAP = made(["a", "b"], [[[1, 0], [0, 1], ONE], [[0, 1], [1, 0], (3, 1)]])
VESSELS = (HALL, FOUR, LOSS, GAIN, TWO_LOSSES, SWAP)


def random_vessel(chance):
    size = chance.randint(1, 5)
    rows = {}
    while len(rows) < chance.randint(1, 4):
        one, two = [tuple([chance.choice((0, 0, 1, 1, 2, 3)) for place in range(size)]) for end in range(2)]
        if one != two:
            rows[one, two] = (chance.randint(1, 9), 1)
    return made(["a", "b", "c", "d", "e"][:size], [[one, two, pace] for (one, two), pace in rows.items()])


def after(vessel, number, count):
    """The count behind a turning, or None where it cannot be made."""
    one, two = vessel[1][number][:2]
    for place in range(len(count)):
        if count[place] < one[place]:
            return None
    return tuple([count[place] - one[place] + two[place] for place in range(len(count))])


def all_comings(vessel, count, most):
    """The list of point 13, or None where there are more than most."""
    told = [(count, [])]
    for here, row in told:
        for number in range(len(vessel[1])):
            there = after(vessel, number, here)
            if there is not None and there not in [entry[0] for entry in told]:
                told.append((there, row + [number]))
                if len(told) > most:
                    return None
    return told


class WalkTest(unittest.TestCase):
    def refused(self, kind, call, *things):
        with self.assertRaises(kind) as caught:
            call(*things)
        error = caught.exception
        self.assertIs(type(error), kind)
        self.assertIsInstance(error, ValueError)
        self.assertIsInstance(error, VesselError)
        for name, other in vars(errors).items():
            if isinstance(other, type) and other.__base__ is VesselError and other is not kind:
                self.assertNotIsInstance(error, other, name)
        return error

    def not_now(self, vessel, row, count, at):
        error = self.refused(NotNow, walked, vessel, row, count)
        self.assertIs(type(error.at), int)
        self.assertEqual(error.at, at)

    def no_turnings_of(self, vessel):
        length = len(vessel[1])
        return (-1, length, length + 1, -length, -length - 1, 8, 9, 100, -100, FAR, -FAR, GREAT, -GREAT)

    def check_count(self, told, size):
        self.assertIs(type(told), tuple)
        self.assertEqual([type(pieces) for pieces in told], [int] * size)


class Walked(WalkTest):
    def test_the_empty_row(self):
        for count in ((0, 0, 0), (1, 2, 3), (GREAT, 0, FAR)):
            with self.subTest(count):
                self.assertEqual(walked(HALL, [], count), count)
                self.check_count(walked(HALL, [], count), 3)

    def test_one_turning(self):
        rows = (
            ([0], (2, 1, 0), (0, 0, 3)), ([0], (5, 4, 7), (3, 3, 10)), ([1], (0, 0, 3), (2, 1, 0)),
            ([1], (1, 1, 4), (3, 2, 1)), ([2], (1, 0, 0), (1, 1, 0)), ([3], (0, 1, 1), (0, 0, 1)),
            ([0], (GREAT, GREAT, GREAT), (GREAT - 2, GREAT - 1, GREAT + 3)), ([3], (0, GREAT, 1), (0, GREAT - 1, 1)),
            ([1], (FAR, GREAT, FAR), (FAR + 2, GREAT + 1, FAR - 3)),
        )
        for row, count, told in rows:
            with self.subTest(row=row, count=count):
                self.assertEqual(walked(HALL, row, count), told)
                self.check_count(walked(HALL, row, count), 3)

    def test_several_turnings(self):
        self.assertEqual(walked(HALL, [0, 1], (2, 1, 0)), (2, 1, 0))
        self.assertEqual(walked(HALL, [2, 2, 0, 3], (2, 0, 0)), (0, 0, 3))
        self.assertEqual(walked(HALL, [2, 0, 1, 0], (2, 0, 0)), (0, 0, 3))
        self.assertEqual(walked(HALL, [1, 1, 2], (0, 0, 6)), (4, 3, 0))
        self.assertEqual(walked(FOUR, [0, 0, 1], (6, 5, 2, 0)), (3, 3, 1, 1))

    def test_forty_and_a_hundred_turnings(self):
        self.assertEqual(walked(LOSS, [0] * 40, (40,)), (0,))
        self.assertEqual(walked(LOSS, [0] * 40, (FAR,)), (FAR - 40,))
        self.assertEqual(walked(GAIN, [0] * 40, (0,)), (40,))
        self.assertEqual(walked(GAIN, [0] * 100, (GREAT,)), (GREAT + 100,))
        self.assertEqual(walked(HALL, [2, 0, 1, 2] * 10, (2, 0, 0)), (2, 20, 0))
        self.assertEqual(walked(SWAP, [0, 1] * 20, (1, 0)), (1, 0))
        self.not_now(LOSS, [0] * 40, (39,), 39)
        self.not_now(LOSS, [0] * 100, (99,), 99)
        self.not_now(SWAP, [0, 1] * 20 + [1], (1, 0), 40)

    def test_just_enough_and_one_too_few(self):
        for vessel in VESSELS:
            for number, turning in enumerate(vessel[1]):
                with self.subTest(vessel=vessel, number=number):
                    self.assertEqual(walked(vessel, [number], turning[0]), turning[1])
                for place, pieces in enumerate(turning[0]):
                    if pieces == 0:
                        continue
                    for rest in (0, 1, FAR):
                        count = [there + rest for there in turning[0]]
                        count[place] = pieces - 1
                        with self.subTest(vessel=vessel, number=number, count=count):
                            self.not_now(vessel, [number], tuple(count), 0)

    def test_what_is_put_back_is_needed(self):
        self.not_now(HALL, [2], (0, 9, 9), 0)
        self.not_now(HALL, [3], (9, 9, 0), 0)
        self.not_now(HALL, [3], (9, 0, 9), 0)
        # A turning that only puts in more of what it takes.
        more = made(["a"], [[[2], [3], ONE]])
        self.assertEqual(walked(more, [0], (2,)), (3,))
        self.not_now(more, [0], (1,), 0)
        self.not_now(more, [0], (0,), 0)

    def test_not_now_at_each_place(self):
        for place in range(40):
            row = [0] * 40
            with self.subTest(place):
                self.not_now(LOSS, row, (place,), place)
        self.not_now(HALL, [0, 0], (2, 1, 0), 1)
        self.not_now(HALL, [0, 1, 1], (2, 1, 0), 2)
        self.not_now(HALL, [2, 0, 1, 0, 0], (2, 0, 0), 4)

    def test_the_first_that_cannot_be_made_is_told(self):
        self.not_now(HALL, [1, 0, 1], (2, 1, 0), 0)
        self.not_now(HALL, [0, 0, 1, 1], (2, 1, 0), 1)
        self.not_now(LOSS, [0, 0, 0, 0], (1,), 1)

    def test_numbers_that_are_no_turnings(self):
        for vessel in VESSELS:
            plenty = (FAR,) * len(vessel[0])
            for number in self.no_turnings_of(vessel):
                for row in ([number], [0, number], [number, 0], [0] * 39 + [number], [0, number, 0]):
                    with self.subTest(vessel=vessel, row=row):
                        self.refused(NoTurning, walked, vessel, row, plenty)

    def test_no_turning_at_a_count_of_nothing(self):
        for number in (-1, 1, 2, FAR):
            with self.subTest(number):
                self.refused(NoTurning, walked, LOSS, [number], (0,))

    def test_whichever_comes_first_in_the_row(self):
        for vessel, row, count in ((LOSS, [0], (0,)), (HALL, [0, 0], (2, 1, 0)), (SWAP, [0, 1, 1], (1, 0))):
            for number in self.no_turnings_of(vessel):
                for place in range(len(row) + 1):
                    both = row[:place] + [number] + row[place:]
                    with self.subTest(vessel=vessel, both=both):
                        if place < len(row):
                            self.refused(NoTurning, walked, vessel, both, count)
                        else:
                            self.not_now(vessel, both, count, len(row) - 1)

    def test_row_and_count_stay(self):
        for row, count in (([], (1, 1, 1)), ([2, 0], (2, 0, 0)), ([2, 0, 0], (2, 0, 0)), ([0, 7], (2, 1, 0))):
            own = list(row)
            with self.subTest(row):
                try:
                    told = walked(HALL, own, count)
                except VesselError:
                    told = None
                self.assertEqual(own, row)
                own.append(5)
                own.clear()
                try:
                    again = walked(HALL, row, count)
                except VesselError:
                    again = None
                self.assertEqual(again, told)

    def test_random_walks(self):
        chance = random.Random(11)
        ends = {True: 0, False: 0}
        for trial in range(400):
            vessel = random_vessel(chance)
            start = tuple([chance.choice((0, 1, 2, 3, 4, 8, FAR)) for word in vessel[0]])
            row = [chance.randrange(len(vessel[1])) for step in range(chance.randint(0, 8))]
            here = start
            stuck = None
            for at, number in enumerate(row):
                there = after(vessel, number, here)
                if there is None:
                    stuck = at
                    break
                here = there
            ends[stuck is None] += 1
            with self.subTest(vessel=vessel, start=start, row=row):
                if stuck is None:
                    self.assertEqual(walked(vessel, row, start), here)
                else:
                    self.not_now(vessel, row, start, stuck)
        self.assertGreater(min(ends.values()), 50)


class Ways(WalkTest):
    def product(self, turning, count):
        told = Fraction(turning[2][0], turning[2][1])
        for taken, pieces in zip(turning[0], count):
            for less in range(taken):
                told *= pieces - less
        return told

    def check_fraction(self, told):
        self.assertIs(type(told), tuple)
        self.assertEqual([type(number) for number in told], [int, int])
        self.assertGreaterEqual(told[1], 1)
        self.assertEqual(gcd(told[0], told[1]), 1)

    def test_by_hand(self):
        rows = (
            (0, (2, 1, 0), (1, 1)), (0, (3, 1, 0), (3, 1)), (0, (4, 5, 9), (30, 1)), (0, (1, 5, 0), (0, 1)),
            (0, (0, 5, 0), (0, 1)), (0, (5, 0, 0), (0, 1)), (1, (0, 0, 3), (24, 1)), (1, (7, 7, 5), (240, 1)),
            (1, (7, 7, 2), (0, 1)), (2, (1, 0, 0), (2, 3)), (2, (3, 0, 0), (2, 1)), (2, (4, 7, 7), (8, 3)),
            (2, (0, 7, 7), (0, 1)), (3, (0, 2, 3), (30, 1)), (3, (0, 2, 0), (0, 1)), (3, (0, 0, 2), (0, 1)),
        )
        for number, count, told in rows:
            with self.subTest(number=number, count=count):
                self.assertEqual(ways(HALL, number, count), told)
                self.check_fraction(ways(HALL, number, count))

    def test_a_turning_from_no_piece(self):
        for pieces in (0, 1, 5, FAR):
            self.assertEqual(ways(GAIN, 0, (pieces,)), (1, 1))
        slow = made(["a", "b"], [[[0, 0], [1, 1], (3, 7)]])
        for count in ((0, 0), (0, 4), (4, 0), (GREAT, GREAT)):
            self.assertEqual(ways(slow, 0, count), (3, 7))

    def test_none_to_three_pieces_at_fewer_as_many_and_more(self):
        for taken in range(4):
            for pace in ((1, 1), (1, 2), (1, 6), (5, 3), (7, 24)):
                vessel = made(["a"], [[[taken], [(taken + 1) % 4], pace]])
                for pieces in (0, 1, 2, 3, 4, 5, 6, 10, FAR, GREAT):
                    with self.subTest(taken=taken, pace=pace, pieces=pieces):
                        told = ways(vessel, 0, (pieces,))
                        self.check_fraction(told)
                        value = self.product(vessel[1][0], (pieces,))
                        self.assertEqual(told, (value.numerator, value.denominator))
                        self.assertEqual(told == (0, 1), pieces < taken)
                        self.assertEqual(ways(vessel, 0, (pieces,)), told)

    def test_several_stuffs(self):
        numbers = (0, 1, 2, 3, 5, GREAT)
        for vessel in (HALL, FOUR, TWO_LOSSES, SWAP):
            size = len(vessel[0])
            counts = [tuple([numbers[(first + step * place) % 6] for place in range(size)])
                      for first in range(6) for step in range(6)]
            for number, turning in enumerate(vessel[1]):
                for count in counts:
                    with self.subTest(vessel=vessel, number=number, count=count):
                        told = ways(vessel, number, count)
                        self.check_fraction(told)
                        value = self.product(turning, count)
                        self.assertEqual(told, (value.numerator, value.denominator))
                        self.assertEqual(told == (0, 1), after(vessel, number, count) is None)

    def test_forty_figures(self):
        self.assertEqual(ways(FOUR, 0, (GREAT, 2, 1, 0)), (7 * GREAT * (GREAT - 1) * (GREAT - 2) // 3, 1))
        self.assertEqual(ways(FOUR, 0, (3, 2, FAR, 0)), (14 * FAR, 1))
        self.assertEqual(ways(LOSS, 0, (GREAT,)), (GREAT, 1))
        slow = made(["a"], [[[2], [0], (1, 10 ** 29 + 3)]])
        self.assertEqual(Fraction(*ways(slow, 0, (GREAT,))), Fraction(GREAT * (GREAT - 1), 10 ** 29 + 3))

    def test_numbers_that_are_no_turnings(self):
        for vessel in VESSELS:
            size = len(vessel[0])
            for number in self.no_turnings_of(vessel):
                for count in ((0,) * size, (3,) * size, (FAR,) * size):
                    with self.subTest(vessel=vessel, number=number, count=count):
                        self.refused(NoTurning, ways, vessel, number, count)


class Comings(WalkTest):
    def check_told(self, vessel, count, told):
        self.assertIs(type(told), list)
        self.assertEqual(told[0], (count, []))
        for entry in told:
            self.assertIs(type(entry), tuple)
            self.assertEqual(len(entry), 2)
            self.check_count(entry[0], len(count))
            self.assertIs(type(entry[1]), list)
            self.assertEqual([type(number) for number in entry[1]], [int] * len(entry[1]))
            here = count
            for number in entry[1]:
                self.assertIn(number, range(len(vessel[1])))
                here = after(vessel, number, here)
                self.assertIsNotNone(here)
            self.assertEqual(here, entry[0])
        self.assertEqual(len(set([entry[0] for entry in told])), len(told))
        self.assertEqual(len(set([id(entry[1]) for entry in told])), len(told))

    def too_many(self, vessel, count):
        error = self.refused(TooMany, comings, vessel, count)
        self.assertEqual(len(error.counts), 61)
        self.check_told(vessel, count, error.counts)
        return error

    def test_by_hand(self):
        self.assertEqual(comings(LOSS, (0,)), [((0,), [])])
        self.assertEqual(comings(LOSS, (2,)), [((2,), []), ((1,), [0]), ((0,), [0, 0])])
        self.assertEqual(comings(SWAP, (0, 0)), [((0, 0), [])])
        self.assertEqual(comings(SWAP, (1, 1)), [((1, 1), []), ((0, 2), [0]), ((2, 0), [1])])
        self.assertEqual(
            comings(SWAP, (0, 3)),
            [((0, 3), []), ((1, 2), [1]), ((2, 1), [1, 1]), ((3, 0), [1, 1, 1])],
        )
        self.assertEqual(
            comings(TWO_LOSSES, (2, 1)),
            [
                ((2, 1), []), ((1, 1), [0]), ((2, 0), [1]), ((0, 1), [0, 0]), ((1, 0), [0, 1]),
                ((0, 0), [0, 0, 1]),
            ],
        )

    def test_the_order_is_by_counts_and_then_by_turnings(self):
        # c is come to at once by turning 2, and by turnings 0 and 1 only in two steps.
        vessel = made(
            ["a", "b", "c", "d"],
            [
                [[1, 0, 0, 0], [0, 1, 0, 0], ONE], [[0, 1, 0, 0], [0, 0, 1, 0], ONE],
                [[1, 0, 0, 0], [0, 0, 1, 0], ONE], [[0, 0, 1, 0], [0, 0, 0, 1], ONE],
                [[0, 1, 0, 0], [0, 0, 0, 1], ONE],
            ],
        )
        self.assertEqual(
            comings(vessel, (1, 0, 0, 0)),
            [((1, 0, 0, 0), []), ((0, 1, 0, 0), [0]), ((0, 0, 1, 0), [2]), ((0, 0, 0, 1), [0, 4])],
        )
        turned = (vessel[0], (vessel[1][2], vessel[1][0], vessel[1][1], vessel[1][3], vessel[1][4]))
        self.assertEqual(
            comings(turned, (1, 0, 0, 0)),
            [((1, 0, 0, 0), []), ((0, 0, 1, 0), [0]), ((0, 1, 0, 0), [1]), ((0, 0, 0, 1), [0, 3])],
        )

    def test_two_turnings_to_one_count(self):
        # Unlike turnings with the same change: the count is told with the first one's row.
        vessel = made(["a", "b"], [[[2, 0], [1, 0], ONE], [[1, 0], [0, 0], ONE], [[1, 1], [0, 1], ONE]])
        self.assertEqual(
            comings(vessel, (2, 1)),
            [((2, 1), []), ((1, 1), [0]), ((0, 1), [0, 1])],
        )
        turned = (vessel[0], tuple(reversed(vessel[1])))
        self.assertEqual(comings(turned, (2, 0)), [((2, 0), []), ((1, 0), [1]), ((0, 0), [1, 1])])

    def test_great_counts(self):
        vessel = made(["a", "b"], [[[1, 1], [0, 0], ONE]])
        for much in (FAR, GREAT):
            with self.subTest(much):
                told = [((much - gone, 5 - gone), [0] * gone) for gone in range(6)]
                self.assertEqual(comings(vessel, (much, 5)), told)
                self.too_many(LOSS, (much,))

    def test_just_sixty_and_sixty_one(self):
        told = comings(LOSS, (59,))
        self.assertEqual(told, [((59 - gone,), [0] * gone) for gone in range(60)])
        self.too_many(LOSS, (60,))
        self.too_many(LOSS, (61,))
        for one, two in ((59, 0), (29, 1), (19, 2), (14, 3), (11, 4), (9, 5), (5, 9), (1, 29), (0, 59)):
            with self.subTest(one=one, two=two):
                told = comings(TWO_LOSSES, (one, two))
                self.assertEqual(len(told), 60)
                self.check_told(TWO_LOSSES, (one, two), told)
                self.assertEqual(told, all_comings(TWO_LOSSES, (one, two), 60))
        for one, two in ((60, 0), (0, 60), (30, 1), (20, 2), (15, 3), (7, 7), (59, 59)):
            with self.subTest(one=one, two=two):
                self.too_many(TWO_LOSSES, (one, two))
        self.assertEqual(len(comings(SWAP, (30, 29))), 60)
        self.too_many(SWAP, (30, 30))

    def test_the_sixty_first_comes_beside_others(self):
        # Three turnings from one count: the walks come from fewer than sixty to more than sixty-one in one step.
        vessel = made(
            ["a", "b", "c", "d"],
            [
                [[1, 0, 0, 0], [0, 0, 0, 0], ONE], [[0, 1, 0, 0], [0, 0, 0, 0], ONE],
                [[0, 0, 1, 0], [0, 0, 0, 0], ONE], [[0, 0, 0, 1], [0, 0, 0, 0], ONE],
            ],
        )
        self.too_many(vessel, (9, 9, 9, 9))
        self.too_many(vessel, (2, 2, 2, 2))
        self.assertEqual(len(comings(vessel, (1, 1, 4, 2))), 60)
        self.assertEqual(comings(vessel, (1, 1, 4, 2)), all_comings(vessel, (1, 1, 4, 2), 60))

    def test_without_end(self):
        self.too_many(GAIN, (0,))
        self.too_many(GAIN, (GREAT,))
        self.too_many(made(["a"], [[[1], [2], ONE]]), (1,))
        self.assertEqual(comings(made(["a"], [[[1], [2], ONE]]), (0,)), [((0,), [])])
        self.too_many(HALL, (1, 0, 0))
        self.too_many(
            made(["a", "b"], [[[0, 0], [1, 0], ONE], [[0, 0], [0, 1], ONE], [[1, 1], [0, 0], ONE]]), (0, 0),
        )

    def test_the_told_lists_are_the_askers_own(self):
        for vessel, count in ((LOSS, (5,)), (SWAP, (2, 2)), (TWO_LOSSES, (3, 3)), (LOSS, (0,))):
            with self.subTest(vessel=vessel, count=count):
                told = comings(vessel, count)
                second = comings(vessel, count)
                kept = [(there, list(row)) for there, row in told]
                for entry in told:
                    entry[1].clear()
                    entry[1].append(7)
                told.clear()
                self.assertEqual(second, kept)
                self.assertEqual(comings(vessel, count), kept)

    def test_the_counts_of_a_refusal_are_the_askers_own(self):
        for vessel, count in ((LOSS, (60,)), (GAIN, (0,)), (TWO_LOSSES, (8, 8))):
            with self.subTest(vessel=vessel, count=count):
                told = self.too_many(vessel, count).counts
                second = self.too_many(vessel, count).counts
                kept = [(there, list(row)) for there, row in told]
                for entry in told:
                    entry[1].clear()
                told.clear()
                self.assertEqual(second, kept)
                self.assertEqual(self.too_many(vessel, count).counts, kept)

    def test_random_vessels(self):
        chance = random.Random(13)
        ends = {True: 0, False: 0}
        for trial in range(400):
            vessel = random_vessel(chance)
            count = tuple([chance.randint(0, 4) for word in vessel[0]])
            asked = all_comings(vessel, count, 60)
            with self.subTest(vessel=vessel, count=count):
                if asked is None:
                    self.too_many(vessel, count)
                else:
                    self.assertEqual(comings(vessel, count), asked)
                    self.check_told(vessel, count, comings(vessel, count))
                    ends[len(asked) > 1] += 1
        self.assertGreater(min(ends.values()), 20)


if __name__ == "__main__":
    unittest.main()
