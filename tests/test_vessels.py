import copy
import unittest

from vesselhall.errors import NoHeap, NoPace, NoStuffs, NoTurning, NoTurnings
from vesselhall.vessels import change, heaps, made

ONE = (1, 1)
FAR = 10 ** 39

# A ring of eight heaps over two stuffs, and a ninth heap beside them.
RING = ((0, 0), (0, 1), (0, 2), (0, 3), (1, 3), (2, 3), (3, 3), (3, 0))
NINTH = (1, 1)


def ring(length):
    return [[RING[place], RING[(place + 1) % length], (place + 1, 1)] for place in range(length)]


def pairs(places):
    return [[RING[one], RING[two], ONE] for one, two in places]


# Each makes a vessel of its own size: the words and the rows as they are handed in.
VESSELS = (
    (["a"], [[[0], [3], (1, 2)]]),
    (["a"], [[[1], [2], ONE], [[2], [1], (7, 3)], [(0,), (3,), ONE]]),
    (["ab", "ba"], [[[2, 1], [0, 3], (5, 1)], [(0, 3), (2, 1), (1, 7)]]),
    (["water", "fire", "air"], [[[1, 1, 0], [0, 0, 2], ONE], [[0, 0, 2], (3, 0, 0), (2, 9)]]),
    (["a", "b", "c", "d"], [[[1, 0, 0, 0], [0, 1, 0, 0], ONE], [[0, 1, 0, 0], [0, 0, 1, 3], ONE]]),
    (["abcdefgh", "z", "zz", "zzz", "ijklmnop"], [[[3, 3, 3, 3, 3], [0, 0, 0, 0, 0], (10 ** 30 - 1, 10 ** 30 - 3)]]),
    (["x", "y"], ring(8)),
    (["x", "y"], ring(7)),
    (["x", "y"], pairs([(0, 1), (2, 3), (4, 5), (6, 7)])),
    (["x", "y"], pairs([(0, 1), (0, 2), (0, 3), (1, 0), (2, 0), (3, 0), (1, 2), (2, 1)])),
)


class VesselTest(unittest.TestCase):
    def refused(self, kind, words, rows):
        with self.assertRaises(kind) as caught:
            made(words, rows)
        self.assertIs(type(caught.exception), kind)


class Made(VesselTest):
    def check_form(self, vessel):
        self.assertIs(type(vessel), tuple)
        self.assertEqual(len(vessel), 2)
        self.assertIs(type(vessel[0]), tuple)
        self.assertIs(type(vessel[1]), tuple)
        for turning in vessel[1]:
            self.assertIs(type(turning), tuple)
            self.assertEqual([type(part) for part in turning], [tuple, tuple, tuple])

    def test_told_as_tuples_of_tuples(self):
        vessel = made(["a", "b", "c"], [[[2, 1, 0], [0, 0, 3], (1, 2)], [(0, 0, 3), (2, 1, 0), (4, 1)]])
        self.assertEqual(
            vessel,
            (("a", "b", "c"), (((2, 1, 0), (0, 0, 3), (1, 2)), ((0, 0, 3), (2, 1, 0), (4, 1)))),
        )
        self.check_form(vessel)

    def test_all_sizes(self):
        for words, rows in VESSELS:
            with self.subTest(words=words, rows=rows):
                vessel = made(words, rows)
                self.check_form(vessel)
                self.assertEqual(vessel[0], tuple(words))
                self.assertEqual(vessel[1], tuple([(tuple(one), tuple(two), pace) for one, two, pace in rows]))

    def test_lists_and_tuples_make_the_same(self):
        for words, rows in VESSELS:
            with self.subTest(words=words, rows=rows):
                lists = [(list(one), list(two), pace) for one, two, pace in rows]
                tuples = [(tuple(one), tuple(two), pace) for one, two, pace in rows]
                mixed = [(list(one), tuple(two), pace) for one, two, pace in rows]
                self.assertEqual(made(words, lists), made(words, tuples))
                self.assertEqual(made(words, mixed), made(words, tuples))
                self.check_form(made(words, mixed))

    def test_what_is_handed_in_stays(self):
        for words, rows in VESSELS:
            with self.subTest(words=words, rows=rows):
                own_words = list(words)
                own_rows = copy.deepcopy(rows)
                made(own_words, own_rows)
                self.assertEqual(own_words, words)
                self.assertEqual(own_rows, rows)

    def test_what_is_done_behind_the_call_changes_nothing(self):
        for words, rows in VESSELS:
            with self.subTest(words=words, rows=rows):
                own_words = list(words)
                own_rows = [[list(one), list(two), pace] for one, two, pace in rows]
                vessel = made(own_words, own_rows)
                told = made(words, rows)
                own_words[0] = "other"
                for row in own_rows:
                    row[0][0] = 9
                    row[1].clear()
                    row[2] = (9, 1)
                own_words.clear()
                own_rows.clear()
                self.assertEqual(vessel, told)

    def test_a_told_vessel_makes_itself_again(self):
        for words, rows in VESSELS:
            with self.subTest(words=words, rows=rows):
                vessel = made(words, rows)
                self.assertEqual(made(vessel[0], vessel[1]), vessel)
                self.assertEqual(made(list(vessel[0]), list(vessel[1])), vessel)
                self.assertEqual(made(words, rows), vessel)

    def test_order_of_words_and_rows_stays(self):
        vessel = made(["z", "a", "m"], [[[0, 0, 1], [0, 1, 0], ONE], [[0, 0, 0], [3, 0, 0], ONE]])
        self.assertEqual(vessel[0], ("z", "a", "m"))
        self.assertEqual(vessel[1][0][0], (0, 0, 1))
        self.assertEqual(vessel[1][1][0], (0, 0, 0))


class Stuffs(VesselTest):
    def rows(self, count):
        return [[[1] * count, [0] * count, ONE]]

    def test_no_word_and_six_words(self):
        self.refused(NoStuffs, [], [])
        self.refused(NoStuffs, [], self.rows(0))
        self.refused(NoStuffs, [], self.rows(1))
        self.refused(NoStuffs, ["a", "b", "c", "d", "e", "f"], self.rows(6))
        self.refused(NoStuffs, ["a", "b", "c", "d", "e", "f"], self.rows(5))
        self.refused(NoStuffs, [sign for sign in "abcdefghij"], self.rows(10))

    def test_one_to_five_words_are_taken(self):
        for count in range(1, 6):
            with self.subTest(count):
                words = ["a", "b", "c", "d", "e"][:count]
                self.assertEqual(made(words, self.rows(count))[0], tuple(words))

    def test_one_word_twice(self):
        self.refused(NoStuffs, ["a", "a"], self.rows(2))
        self.refused(NoStuffs, ["a", "b", "a"], self.rows(3))
        self.refused(NoStuffs, ["b", "c", "d", "ab", "ab"], self.rows(5))
        self.refused(NoStuffs, ["ab", "c", "d", "e", "ab"], self.rows(5))

    def test_words_that_are_nearly_alike_are_taken(self):
        words = ["a", "aa", "ab", "ba", "aaa"]
        self.assertEqual(made(words, self.rows(5))[0], tuple(words))

    def test_the_length_of_words(self):
        for words in ([""], ["a", ""], ["", "a"], ["abcdefghi"], ["a", "abcdefghi"], ["aaaaaaaaa", "b"], ["a" * 300]):
            with self.subTest(words):
                self.refused(NoStuffs, words, self.rows(len(words)))
        for words in (["a"], ["z"], ["abcdefgh"], ["zzzzzzzz"], ["stuvwxyz", "ijklmnop", "qr"]):
            with self.subTest(words):
                self.assertEqual(made(words, self.rows(len(words)))[0], tuple(words))

    def test_signs_that_are_not_from_a_to_z(self):
        for sign in "`{AMZ059 _-+@/[]~!^|}":
            for word in (sign, sign + "bc", "b" + sign + "c", "bc" + sign, "abcdefg" + sign, sign + "abcdefg"):
                for words in ([word], ["a", word], [word, "a"], ["a", word, "d"]):
                    with self.subTest(words):
                        self.refused(NoStuffs, words, self.rows(len(words)))


class Heaps(VesselTest):
    def at_each_place(self, wrong):
        words = ["a", "b"]
        for length in (1, 2, 3):
            for place in sorted(set([0, length - 1])):
                for end in (0, 1):
                    for kind in (list, tuple):
                        rows = ring(length + 1)[:length]
                        rows[place][end] = kind(wrong)
                        with self.subTest(rows):
                            self.refused(NoHeap, words, rows)

    def test_numbers_beyond_0_to_3(self):
        for number in (-1, 4, -2, 5, 100, FAR, -FAR):
            self.at_each_place([number, 0])
            self.at_each_place([0, number])
            self.at_each_place([3, number])

    def test_one_number_too_many_or_too_few(self):
        for wrong in ([], [0], [3], [0, 0, 0], [1, 2, 3], [0, 0, 0, 0, 0, 0]):
            self.at_each_place(wrong)

    def test_the_right_length_hangs_on_the_words(self):
        self.refused(NoHeap, ["a"], [[[0, 0], [1, 0], ONE]])
        self.refused(NoHeap, ["a", "b", "c", "d", "e"], [[[0] * 4, [1] * 4, ONE]])
        self.refused(NoHeap, ["a", "b", "c", "d", "e"], [[[0] * 6, [1] * 6, ONE]])

    def test_no_and_three_pieces_are_taken(self):
        self.assertEqual(made(["a", "b"], [[[0, 0], [3, 3], ONE]])[1], (((0, 0), (3, 3), ONE),))
        self.assertEqual(made(["a", "b"], [[[3, 3], [0, 0], ONE]])[1], (((3, 3), (0, 0), ONE),))
        self.assertEqual(made(["a"], [[[1], [2], ONE]])[1], (((1,), (2,), ONE),))


class Paces(VesselTest):
    def test_paces_of_0_and_below(self):
        for pace in ((0, 1), (-1, 1), (-1, 2), (-7, 3), (-1, 10 ** 29), (1 - 10 ** 30, 1)):
            for length in (1, 2, 8):
                for place in range(length):
                    rows = ring(8)[:length]
                    rows[place][2] = pace
                    with self.subTest(pace=pace, length=length, place=place):
                        self.refused(NoPace, ["a", "b"], rows)

    def test_paces_above_0_are_taken(self):
        for pace in ((1, 1), (1, 2), (7, 3), (1, 10 ** 30 - 1), (10 ** 30 - 1, 1), (10 ** 30 - 1, 10 ** 30 - 2)):
            with self.subTest(pace):
                self.assertEqual(made(["a"], [[[0], [1], pace]])[1][0][2], pace)


class Turnings(VesselTest):
    words = ["a", "b"]

    def test_no_row_and_nine_rows(self):
        self.refused(NoTurnings, self.words, [])
        nine = pairs([(0, 1), (1, 0), (0, 2), (2, 0), (1, 2), (2, 1), (0, 3), (3, 0), (1, 3)])
        self.refused(NoTurnings, self.words, nine)
        self.assertEqual(len(made(self.words, nine[:8])[1]), 8)
        self.refused(NoTurnings, self.words, ring(8) + pairs([(1, 0)]))
        self.refused(NoTurnings, self.words, ring(8) * 12)

    def test_a_row_from_a_heap_to_the_same(self):
        for length in (1, 3, 8):
            for place in range(length):
                for one, two in ((list, list), (tuple, tuple), (list, tuple), (tuple, list)):
                    rows = ring(8)[:length]
                    rows[place] = [one(RING[place]), two(RING[place]), ONE]
                    with self.subTest(rows):
                        self.refused(NoTurnings, self.words, rows)
        self.refused(NoTurnings, self.words, [[[0, 0], [0, 0], ONE]])

    def test_the_same_from_and_to_twice(self):
        for pace in ((1, 1), (2, 1), (1, 2)):
            for one, two in ((0, 1), (0, 2), (1, 2), (0, 6), (5, 6)):
                for kind in (list, tuple):
                    rows = ring(8)[:7]
                    rows[two] = [kind(RING[one]), kind(RING[one + 1]), pace]
                    with self.subTest(rows):
                        self.refused(NoTurnings, self.words, rows)

    def test_rows_that_share_one_heap_or_lead_back_are_taken(self):
        for places in ([(0, 1), (1, 0)], [(0, 1), (0, 2)], [(0, 2), (1, 2)], [(0, 1), (1, 2), (2, 0)]):
            with self.subTest(places):
                self.assertEqual(len(made(self.words, pairs(places))[1]), len(places))

    def test_a_ninth_heap(self):
        chain = ring(8)[:7]
        self.assertEqual(len(heaps(made(self.words, ring(8)))), 8)
        self.assertEqual(len(heaps(made(self.words, chain))), 8)
        self.refused(NoTurnings, self.words, chain + [[RING[7], NINTH, ONE]])
        self.refused(NoTurnings, self.words, chain + [[NINTH, RING[0], ONE]])
        self.refused(NoTurnings, self.words, [[NINTH, RING[0], ONE]] + chain)
        four = pairs([(0, 1), (2, 3), (4, 5), (6, 7)])
        self.assertEqual(len(heaps(made(self.words, four))), 8)
        self.refused(NoTurnings, self.words, four + [[list(NINTH), [2, 2], ONE]])
        self.refused(NoTurnings, self.words, four + [[list(NINTH), list(RING[0]), ONE]])
        self.refused(NoTurnings, self.words, four + [[list(RING[0]), list(NINTH), ONE]])


class Order(VesselTest):
    words = ["a", "b"]
    wrong_words = ([], ["a", "a"], ["a", "B"], ["a", ""], ["a", "abcdefghi"], ["a", "b", "c", "d", "e", "f"])

    def wrong_turnings(self):
        # Every kind of rows that NoTurnings refuses, with room for a wrong row behind them.
        return (
            [[[0, 0], [0, 0], ONE]],
            pairs([(0, 1), (0, 1)]),
            pairs([(0, 1), (1, 0), (0, 2), (2, 0), (1, 2), (2, 1), (0, 3), (3, 0), (1, 3)]),
            ring(8)[:7] + [[RING[7], NINTH, ONE]],
            ring(8) * 2,
        )

    def test_stuffs_go_ahead_of_all(self):
        wrong = list(self.wrong_turnings())
        wrong.append([])
        wrong.append([[[4, 0], [0, 0], ONE]])
        wrong.append([[[0, 0], [0], ONE]])
        wrong.append([[[0, 0], [0, 1], (0, 1)]])
        wrong.append([[[9], [9], (0, 1)]])
        for words in self.wrong_words:
            for rows in wrong:
                with self.subTest(words=words, rows=rows):
                    self.refused(NoStuffs, words, rows)

    def test_heaps_go_ahead_of_paces(self):
        for heap in ([4, 0], [0, -1], [0], [0, 0, 0]):
            for pace in ((0, 1), (-1, 2)):
                slow = [[0, 0], [0, 1], pace]
                for bad in ([heap, [1, 1], ONE], [[1, 1], heap, ONE], [heap, [1, 1], pace], [[1, 1], heap, pace]):
                    for rows in ([slow, bad], [bad, slow], [slow, slow, bad], [bad], [bad, slow, slow]):
                        with self.subTest(rows):
                            self.refused(NoHeap, self.words, rows)

    def test_heaps_go_ahead_of_turnings(self):
        for rows in self.wrong_turnings():
            for bad in ([[4, 0], [0, 0], ONE], [[0, 0], [0, -1], ONE], [[0], [0, 1], ONE], [[0, 0], [0, 0, 0], ONE]):
                with self.subTest(rows=rows, bad=bad):
                    self.refused(NoHeap, self.words, rows + [bad])
                    self.refused(NoHeap, self.words, [bad] + rows)
        # Such heaps are alike, but they are no heaps.
        self.refused(NoHeap, self.words, [[[4, 4], [4, 4], ONE]])
        self.refused(NoHeap, self.words, [[[], [], ONE]])

    def test_paces_go_ahead_of_turnings(self):
        for rows in self.wrong_turnings():
            for pace in ((0, 1), (-3, 2)):
                for bad in ([[2, 0], [0, 2], pace], [[0, 0], [0, 0], pace], [[0, 0], [0, 1], pace]):
                    with self.subTest(rows=rows, bad=bad):
                        self.refused(NoPace, self.words, rows + [bad])
                        self.refused(NoPace, self.words, [bad] + rows)

    def test_three_at_once(self):
        alike = [[0, 0], [0, 0], ONE]
        slow = [[0, 0], [0, 1], (0, 1)]
        heap = [[0, 0], [0, 4], ONE]
        self.refused(NoHeap, self.words, [alike, slow, heap])
        self.refused(NoHeap, self.words, [alike] * 8 + [slow, heap])
        self.refused(NoPace, self.words, [alike] * 9 + [slow])
        self.refused(NoStuffs, ["a", "a"], [alike, slow, heap])


class HeapList(VesselTest):
    def test_in_the_order_in_which_they_first_stand(self):
        vessel = made(["a", "b"], [[[2, 1], [0, 3], ONE], [[1, 1], [2, 1], ONE], [[0, 3], [0, 0], ONE]])
        self.assertEqual(heaps(vessel), [(2, 1), (0, 3), (1, 1), (0, 0)])
        vessel = made(["a"], [[[3], [1], ONE], [[2], [0], ONE], [[1], [3], ONE], [[0], [3], ONE]])
        self.assertEqual(heaps(vessel), [(3,), (1,), (2,), (0,)])
        vessel = made(["a"], [[[0], [1], ONE], [[0], [3], ONE], [[0], [2], ONE]])
        self.assertEqual(heaps(vessel), [(0,), (1,), (3,), (2,)])
        self.assertEqual(heaps(made(["x", "y"], ring(8))), list(RING))

    def test_each_once_and_all_there(self):
        for words, rows in VESSELS:
            with self.subTest(words=words, rows=rows):
                ends = [tuple(heap) for row in rows for heap in row[:2]]
                told = heaps(made(words, rows))
                self.assertIs(type(told), list)
                self.assertEqual([type(heap) for heap in told], [tuple] * len(told))
                self.assertEqual(told, sorted(set(ends), key=ends.index))

    def test_the_told_list_is_the_askers_own(self):
        for words, rows in VESSELS:
            with self.subTest(words=words, rows=rows):
                vessel = made(words, rows)
                first = heaps(vessel)
                kept = list(first)
                second = heaps(vessel)
                self.assertIsNot(first, second)
                first.clear()
                self.assertEqual(second, kept)
                self.assertEqual(heaps(vessel), kept)
                self.assertEqual(vessel, made(words, rows))


class Change(VesselTest):
    def test_to_less_from(self):
        vessel = made(
            ["a", "b", "c"],
            [[[2, 1, 0], [0, 0, 3], (1, 2)], [[0, 0, 3], [2, 1, 0], (4, 1)], [[1, 2, 3], [1, 3, 0], ONE]],
        )
        self.assertEqual(change(vessel, 0), (-2, -1, 3))
        self.assertEqual(change(vessel, 1), (2, 1, -3))
        self.assertEqual(change(vessel, 2), (0, 1, -3))
        self.assertEqual(change(made(["a"], [[[3], [0], ONE]]), 0), (-3,))
        self.assertEqual(change(made(["a"], [[[0], [3], ONE]]), 0), (3,))

    def test_all_turnings(self):
        for words, rows in VESSELS:
            vessel = made(words, rows)
            for number, row in enumerate(rows):
                with self.subTest(words=words, number=number):
                    told = change(vessel, number)
                    self.assertIs(type(told), tuple)
                    self.assertEqual(told, tuple([two - one for one, two in zip(row[0], row[1])]))
                    self.assertEqual(change(vessel, number), told)
            self.assertEqual(vessel, made(words, rows))

    def test_numbers_that_are_no_turnings(self):
        for words, rows in VESSELS:
            vessel = made(words, rows)
            count = len(rows)
            for number in (-1, count, count + 1, -count, -count - 1, 8, 100, -100, FAR, -FAR):
                with self.subTest(words=words, number=number):
                    with self.assertRaises(NoTurning) as caught:
                        change(vessel, number)
                    self.assertIs(type(caught.exception), NoTurning)


if __name__ == "__main__":
    unittest.main()
