import copy
import itertools
import re
import unittest
from math import gcd

from vesselhall import errors
from vesselhall.errors import NoStuffs, NoText, NoTurnings, VesselError
from vesselhall.texts import read, written
from vesselhall.vessels import made

ONE = (1, 1)
GREAT = 10 ** 30 - 1

# Each a vessel's words, its rows, and the texts that point 9 asks of them.
WRITTEN = (
    (["a"], [[[0], [3], (1, 2)]], ["0 -> 3 a @ 1/2"]),
    (
        ["a"],
        [[[1], [0], ONE], [[2], [1], (7, 3)], [[3], [2], (12, 1)]],
        ["a -> 0 @ 1", "2 a -> a @ 7/3", "3 a -> 2 a @ 12"],
    ),
    (
        ["a", "b", "c"],
        [[[2, 1, 0], [0, 0, 3], (1, 2)], [[0, 0, 3], [2, 1, 0], (4, 1)], [[0, 0, 0], [1, 1, 1], (10, 1)]],
        ["2 a + b -> 3 c @ 1/2", "3 c -> 2 a + b @ 4", "0 -> a + b + c @ 10"],
    ),
    # The vessel's order of the stuffs, which is not that of the letters.
    (
        ["z", "a", "m"],
        [[[1, 1, 1], [3, 2, 0], ONE], [[0, 1, 2], [1, 0, 3], (20, 3)], [[0, 2, 0], [0, 0, 0], (3, 20)]],
        ["z + a + m -> 3 z + 2 a @ 1", "a + 2 m -> z + 3 m @ 20/3", "2 a -> 0 @ 3/20"],
    ),
    # Each stuff is the beginning of the next one, and then of the one ahead.
    (
        ["a", "aa", "aab", "aabc"],
        [[[1, 2, 3, 0], [0, 3, 1, 1], ONE], [[0, 0, 0, 1], [0, 0, 1, 0], ONE], [[0, 1, 0, 0], [2, 0, 0, 0], (1, 9)]],
        ["a + 2 aa + 3 aab -> 3 aa + aab + aabc @ 1", "aabc -> aab @ 1", "aa -> 2 a @ 1/9"],
    ),
    (
        ["ironore", "iron", "ir"],
        [[[1, 1, 1], [0, 2, 3], (2, 1)], [[0, 1, 0], [1, 0, 0], (3, 1)], [[0, 0, 1], [0, 1, 0], (5, 7)]],
        ["ironore + iron + ir -> 2 iron + 3 ir @ 2", "iron -> ironore @ 3", "ir -> iron @ 5/7"],
    ),
    # Paces of ten figures and more, up to thirty.
    (
        ["x", "y"],
        [
            [[1, 0], [0, 1], (1234567890, 1)],
            [[0, 1], [1, 0], (1, 9876543210)],
            [[2, 0], [0, 2], (12345678901, 1000000007)],
            [[0, 2], [2, 0], (GREAT, 1)],
            [[3, 0], [0, 3], (1, GREAT)],
            [[0, 3], [3, 0], (GREAT, GREAT - 1)],
            [[0, 3], [0, 2], (10 ** 29, 1)],
            [[0, 2], [0, 3], (10 ** 29 + 1, 10 ** 29)],
        ],
        [
            "x -> y @ 1234567890",
            "y -> x @ 1/9876543210",
            "2 x -> 2 y @ 12345678901/1000000007",
            "2 y -> 2 x @ 999999999999999999999999999999",
            "3 x -> 3 y @ 1/999999999999999999999999999999",
            "3 y -> 3 x @ 999999999999999999999999999999/999999999999999999999999999998",
            "3 y -> 2 y @ 100000000000000000000000000000",
            "2 y -> 3 y @ 100000000000000000000000000001/100000000000000000000000000000",
        ],
    ),
    (
        ["abcdefgh", "z", "zz", "zzz", "ijklmnop"],
        [[[3, 3, 3, 3, 3], [0, 0, 0, 0, 0], (5, 1)], [[0, 0, 0, 0, 0], [1, 2, 3, 2, 1], (1, 5)]],
        [
            "3 abcdefgh + 3 z + 3 zz + 3 zzz + 3 ijklmnop -> 0 @ 5",
            "0 -> abcdefgh + 2 z + 3 zz + 2 zzz + ijklmnop @ 1/5",
        ],
    ),
)

WRONG_WORDS = (
    [], ["a", "a"], ["a", "b", "a"], ["A"], ["a", "B"], [""], ["a", ""], ["abcdefghi"], ["a", "abcdefghi"],
    ["a", "b", "c", "d", "e", "f"], ["a", "b c"], ["a", "b1"], ["a", "2 b"], ["a", "0"], ["a", "`"], ["a", "{"],
)

# Each the text of no turning over the stuffs a, ab and c.
NO_TEXTS = (
    "", " ", "0", "a", "a ->", "a -> ab", "a -> ab @", "a -> ab @ ", "-> @", " ->  @ ", " -> ab @ 1", "a ->  @ 1",
    "a -> ab 1", "a ab @ 1", "a @ 1", "@ 1", "1", "a @ 1 -> ab", "a -> ab -> c @ 1", "a -> ab @ 1 @ 1",
    "a -> ab @ 1 -> c @ 1", "a -> ab -> c", "a <- ab @ 1", "a => ab @ 1", "a - > ab @ 1", "a -> ab # 1",
    # Paces that are not in lowest terms.
    "a -> ab @ 2/4", "a -> ab @ 4/2", "a -> ab @ 6/4", "a -> ab @ 3/3", "a -> ab @ 2/2", "a -> ab @ 10/100",
    "a -> ab @ 1000000000000000000002/4", "a -> ab @ 3/999999999999999999999999999999",
    # Paces of 0 and below.
    "a -> ab @ 0", "a -> ab @ 0/1", "a -> ab @ 0/2", "a -> ab @ -1", "a -> ab @ -1/2", "a -> ab @ 1/-2",
    "a -> ab @ -1/-2", "a -> ab @ -0", "a -> ab @ 00", "a -> ab @ 0/0",
    # Bottoms of 1, of 0 and of nothing.
    "a -> ab @ 1/1", "a -> ab @ 2/1", "a -> ab @ 7/1", "a -> ab @ 1/0", "a -> ab @ 7/0", "a -> ab @ 1/", "a -> ab @ /2",
    "a -> ab @ /", "a -> ab @ 1/2/3", "a -> ab @ 1//2", "a -> ab @ 1/2/", "a -> ab @ /1/2", "a -> ab @ 1/01",
    # Noughts, signs and other things at a pace's numbers.
    "a -> ab @ 01", "a -> ab @ 001", "a -> ab @ 01/2", "a -> ab @ 1/02", "a -> ab @ +1", "a -> ab @ +1/2",
    "a -> ab @ 1/+2", "a -> ab @ 1_0", "a -> ab @ 1/1_0", "a -> ab @ 1.0", "a -> ab @ 1e2", "a -> ab @ 0x1",
    "a -> ab @ 1 /2", "a -> ab @ 1/ 2", "a -> ab @ 1 / 2", "a -> ab @ 1,2", "a -> ab @ one", "a -> ab @ a",
    "a -> ab @ 1-", "a -> ab @ (1)", "a -> ab @ 1\\2", "a -> ab @ 1:2",
    # Stuffs not in the vessel's order.
    "ab + a -> c @ 1", "c -> ab + a @ 1", "c + a -> ab @ 1", "a + c + ab -> 0 @ 1", "2 c + ab -> 0 @ 1",
    "0 -> c + ab + a @ 1", "0 -> 3 ab + 2 a @ 1",
    # A stuff twice.
    "a + a -> ab @ 1", "ab -> a + a @ 1", "a + 2 a -> c @ 1", "2 a + a -> c @ 1", "a + ab + a -> c @ 1",
    "c -> ab + ab @ 1", "2 a + 2 a -> c @ 1",
    # Numbers ahead of a word.
    "1 a -> ab @ 1", "a -> 1 ab @ 1", "0 a -> ab @ 1", "a -> 0 ab @ 1", "4 a -> ab @ 1", "a -> 4 ab @ 1",
    "a + 1 ab -> c @ 1", "a + 0 ab -> c @ 1", "a + 4 ab -> c @ 1", "5 a -> ab @ 1", "9 a -> ab @ 1", "10 a -> ab @ 1",
    "22 a -> ab @ 1", "33 a -> ab @ 1", "02 a -> ab @ 1", "03 a -> ab @ 1", "-1 a -> ab @ 1", "-2 a -> ab @ 1",
    "+2 a -> ab @ 1", "2.0 a -> ab @ 1", "1/2 a -> ab @ 1", "2 2 a -> ab @ 1", "3 2 a -> ab @ 1", "two a -> ab @ 1",
    "a 2 -> ab @ 1", "2 -> ab @ 1", "a -> 3 @ 1", "1 -> ab @ 1", "a -> 1 @ 1", "2 a 3 -> ab @ 1",
    "1000000000000000000000000000000000000000 a -> ab @ 1", "a -> 9999999999999999999999999999999999999999 ab @ 1",
    # 0 beside a stuff, and other noughts.
    "0 + a -> ab @ 1", "a + 0 -> ab @ 1", "a -> 0 + ab @ 1", "a -> ab + 0 @ 1", "0 + 0 -> a @ 1", "00 -> a @ 1",
    "a + 0 + ab -> c @ 1", "2 0 -> a @ 1", "0 0 -> a @ 1", "-0 -> a @ 1", "+0 -> a @ 1", "a -> 00 @ 1", "a -> 0 a @ 1",
    # Words that are no stuff's.
    "b -> a @ 1", "a -> b @ 1", "aa -> a @ 1", "a -> abc @ 1", "a -> A @ 1", "A -> a @ 1", "a + b -> c @ 1",
    "a -> d @ 1", "ca -> a @ 1", "a+ab -> c @ 1", "aab -> c @ 1", "a -> c1 @ 1", "a -> c- @ 1", "a -> abab @ 1",
    # Blanks too many or too few.
    " a -> ab @ 1", "a -> ab @ 1 ", "a  -> ab @ 1", "a ->  ab @ 1", "a -> ab  @ 1", "a -> ab @  1", "a-> ab @ 1",
    "a ->ab @ 1", "a->ab @ 1", "a -> ab@ 1", "a -> ab @1", "a -> ab@1", "2a -> ab @ 1", "2  a -> ab @ 1",
    "a -> 2ab @ 1", "a -> 2  ab @ 1", "a+ ab -> c @ 1", "a +ab -> c @ 1", "a  + ab -> c @ 1", "a +  ab -> c @ 1",
    "a ab -> c @ 1", "a, ab -> c @ 1", " 0 -> a @ 1", "0  -> a @ 1", "a -> 0  @ 1", "2 a  + ab -> c @ 1",
    " 2 a -> c @ 1",
    # Marks between stuffs too many or too few.
    "a + -> ab @ 1", "+ a -> ab @ 1", " + a -> ab @ 1", "a +  -> ab @ 1", "a + + ab -> c @ 1", "a +  + ab -> c @ 1",
    "a ++ ab -> c @ 1", "a -> + @ 1", "a - ab -> c @ 1", "a & ab -> c @ 1", "a -> ab + @ 1", "2 a + 3 -> ab @ 1",
    # Long ones.
    "a" * 300, " " * 300, "a -> ab @ " + "1/" * 145, "a -> ab @ " + "0" * 30, "a + " * 74 + "-> ",
    "a -> ab @ 1" + " " * 289,
)


def term(word, pieces):
    return {0: [], 1: [word], 2: [f"2 {word}"], 3: [f"3 {word}"]}[pieces]


def heap_text(words, heap):
    return " + ".join(sum([term(word, pieces) for word, pieces in zip(words, heap)], [])) or "0"


def heap_of(words, text):
    """The heap that a text tells by the letter of point 9, or None."""
    if text == "0":
        return (0,) * len(words)
    heap = [0] * len(words)
    last = -1
    for part in text.split(" + "):
        match = re.fullmatch(r"(?:([23]) )?([a-z]+)", part)
        if match is None or match.group(2) not in words:
            return None
        place = words.index(match.group(2))
        if place <= last:
            return None
        last = place
        heap[place] = int(match.group(1) or "1")
    return tuple(heap)


def turning_of(words, text):
    """The turning whose text it is by the letter of point 9, or None: told step by step, not by writing it again."""
    match = re.fullmatch(r"([a-z0-9 +]+) -> ([a-z0-9 +]+) @ ([1-9][0-9]*)(?:/([1-9][0-9]*))?", text)
    if match is None:
        return None
    one, two = heap_of(words, match.group(1)), heap_of(words, match.group(2))
    top, bottom = int(match.group(3)), int(match.group(4) or "1")
    if one is None or two is None or gcd(top, bottom) > 1 or match.group(4) == "1":
        return None
    return (one, two, (top, bottom))


def neighbours(text):
    """All texts that come of one sign put in, exchanged or taken out, and of a cut at any place."""
    signs = [chr(number) for number in range(ord(" "), ord("~") + 1)]
    found = set()
    for place in range(len(text) + 1):
        found.update([text[:place], text[place:], text[:place] + text[place + 1:]])
        found.update([text[:place] + sign + text[place:] for sign in signs])
        found.update([text[:place] + sign + text[place + 1:] for sign in signs])
        found.update([text[:place] + text[place + 1:place + 2] + text[place:place + 1] + text[place + 2:]])
    found.discard(text)
    return sorted(found)


class TextTest(unittest.TestCase):
    def refused(self, kind, words, texts):
        with self.assertRaises(kind) as caught:
            read(words, texts)
        error = caught.exception
        self.assertIs(type(error), kind)
        self.assertIsInstance(error, ValueError)
        self.assertIsInstance(error, VesselError)
        for name, other in vars(errors).items():
            if isinstance(other, type) and other.__base__ is VesselError and other is not kind:
                self.assertNotIsInstance(error, other, name)
        return error

    def no_text(self, words, texts, at):
        error = self.refused(NoText, words, texts)
        self.assertIs(type(error.at), int)
        self.assertEqual(error.at, at)

    def check_kinds(self, vessel):
        self.assertEqual([type(part) for part in vessel], [tuple, tuple])
        self.assertEqual([type(word) for word in vessel[0]], [str] * len(vessel[0]))
        for turning in vessel[1]:
            self.assertIs(type(turning), tuple)
            self.assertEqual([type(part) for part in turning], [tuple, tuple, tuple])
            for part in turning:
                self.assertEqual([type(number) for number in part], [int] * len(part))
            self.assertEqual(len(turning[2]), 2)


class Written(TextTest):
    def test_as_the_document_writes_them(self):
        for words, rows, texts in WRITTEN:
            with self.subTest(texts):
                told = written(made(words, rows))
                self.assertEqual(told, texts)
                self.assertIs(type(told), list)
                self.assertEqual([type(text) for text in told], [str] * len(texts))

    def test_every_heap_of_one_stuff(self):
        for one, two in itertools.permutations(range(4), 2):
            for words in (["a"], ["abcdefgh"]):
                with self.subTest(one=one, two=two, words=words):
                    told = written(made(words, [[[one], [two], ONE]]))
                    self.assertEqual(told, [heap_text(words, [one]) + " -> " + heap_text(words, [two]) + " @ 1"])

    def test_every_heap_of_three_stuffs(self):
        words = ["b", "ba", "a"]
        all_heaps = list(itertools.product(range(4), repeat=3))
        for place, heap in enumerate(all_heaps):
            other = all_heaps[place - 1]
            with self.subTest(heap):
                told = written(made(words, [[heap, other, (3, 2)], [other, heap, (2, 3)]]))
                one, two = heap_text(words, heap), heap_text(words, other)
                self.assertEqual(told, [f"{one} -> {two} @ 3/2", f"{two} -> {one} @ 2/3"])

    def test_every_heap_of_five_stuffs_with_none_one_or_two_pieces(self):
        words = ["e", "d", "c", "b", "a"]
        for heap in itertools.product(range(3), repeat=5):
            with self.subTest(heap):
                told = written(made(words, [[heap, [3, 0, 3, 0, 3], ONE]]))
                self.assertEqual(told, [heap_text(words, heap) + " -> 3 e + 3 c + 3 a @ 1"])

    def test_paces(self):
        rows = (
            ((1, 1), "1"), ((2, 1), "2"), ((10, 1), "10"), ((1, 2), "1/2"), ((1, 10), "1/10"), ((11, 12), "11/12"),
            ((12, 11), "12/11"), ((101, 100), "101/100"), ((9999999999, 1), "9999999999"),
            ((1, 10 ** 10), "1/10000000000"),
            ((10 ** 12 + 1, 10 ** 12), "1000000000001/1000000000000"), ((10 ** 29, 1), "1" + "0" * 29),
            ((1, GREAT), "1/" + "9" * 30), ((GREAT, 2), "9" * 30 + "/2"), ((2, GREAT), "2/" + "9" * 30),
        )
        for pace, text in rows:
            with self.subTest(pace):
                self.assertEqual(written(made(["a"], [[[0], [1], pace]])), ["0 -> a @ " + text])

    def test_the_order_of_the_turnings(self):
        for words, rows, texts in WRITTEN:
            for turned in (list(reversed(rows)), rows[1:] + rows[:1]):
                with self.subTest(turned):
                    order = [rows.index(row) for row in turned]
                    self.assertEqual(written(made(words, turned)), [texts[place] for place in order])

    def test_the_told_list_is_the_askers_own(self):
        for words, rows, texts in WRITTEN:
            with self.subTest(texts):
                vessel = made(words, rows)
                first = written(vessel)
                second = written(vessel)
                self.assertIsNot(first, second)
                first.clear()
                self.assertEqual(second, texts)
                self.assertEqual(written(vessel), texts)
                second[0] = "other"
                self.assertEqual(written(vessel), texts)
                self.assertEqual(vessel, made(words, rows))


class Read(TextTest):
    def test_texts_are_read_to_the_vessel(self):
        for words, rows, texts in WRITTEN:
            with self.subTest(texts):
                vessel = read(words, texts)
                self.assertEqual(vessel, made(words, rows))
                self.check_kinds(vessel)
                self.assertEqual(read(words, texts), vessel)

    def test_texts_from_behind(self):
        for words, rows, texts in WRITTEN:
            with self.subTest(texts):
                vessel = read(words, list(reversed(texts)))
                self.assertEqual(vessel, made(words, list(reversed(rows))))
                self.check_kinds(vessel)

    def test_what_was_written_is_read_again(self):
        for words, rows, texts in WRITTEN:
            with self.subTest(texts):
                vessel = made(words, rows)
                self.assertEqual(read(list(vessel[0]), written(vessel)), vessel)
                self.assertEqual(written(read(words, texts)), texts)

    def test_the_words_rule_what_a_text_tells(self):
        self.assertEqual(read(["a", "b"], ["a -> 2 b @ 1"])[1], (((1, 0), (0, 2), ONE),))
        self.assertEqual(read(["b", "a"], ["a -> 2 b @ 1"])[1], (((0, 1), (2, 0), ONE),))
        self.assertEqual(read(["c", "b", "a"], ["b + a -> 2 b @ 1"])[1], (((0, 1, 1), (0, 2, 0), ONE),))
        self.no_text(["a", "b"], ["b + a -> 2 b @ 1"], 0)

    def test_lists_that_were_handed_in_stay(self):
        for words, rows, texts in WRITTEN:
            with self.subTest(texts):
                own_words, own_texts = list(words), list(texts)
                vessel = read(own_words, own_texts)
                self.assertEqual((own_words, own_texts), (words, texts))
                own_words[0] = "other"
                own_texts[0] = "0 -> other @ 1"
                own_words.clear()
                own_texts.clear()
                self.assertEqual(vessel, made(words, rows))

    def test_lists_stay_where_it_is_refused(self):
        for words, texts in ((["a", "a"], ["0 -> a @ 1"]), (["a"], ["0 -> a @ 1", "b"]), (["a"], ["a -> a @ 1"])):
            with self.subTest(texts):
                own_words, own_texts = copy.copy(words), copy.copy(texts)
                with self.assertRaises(VesselError):
                    read(own_words, own_texts)
                self.assertEqual((own_words, own_texts), (words, texts))

    def test_eight_texts_and_eight_heaps_are_taken(self):
        texts = [f"{number} a -> {number} b @ {pace}" for number, pace in ((2, 1), (3, 2))]
        texts += ["0 -> a @ 1", "b -> a + b @ 2/3", "a + b -> 0 @ 10", "0 -> b @ 11", "b -> 0 @ 12", "a -> 2 a @ 13"]
        self.assertEqual(len(read(["a", "b"], texts)[1]), 8)
        self.assertEqual(written(read(["a", "b"], texts)), texts)


class NoTexts(TextTest):
    words = ["a", "ab", "c"]

    def test_each_is_refused_at_its_place(self):
        right = ["a -> ab @ 1", "ab -> c @ 1/2", "c -> 0 @ 3"]
        for text in NO_TEXTS:
            with self.subTest(text):
                self.assertIsNone(turning_of(self.words, text))
                self.no_text(self.words, [text], 0)
                for place in range(4):
                    self.no_text(self.words, right[:place] + [text] + right[place:], place)

    def test_the_first_of_several_is_told(self):
        right = "a -> ab @ 1"
        for length in range(2, 9):
            for one in range(length - 1):
                texts = [right] * length
                texts[one] = "a -> b @ 1"
                texts[one + 1] = ""
                texts[-1] = "a"
                with self.subTest(length=length, one=one):
                    self.no_text(self.words, texts, one)
                    texts[one + 1] = texts[one]
                    self.no_text(self.words, texts, one)

    def test_neighbours_of_texts(self):
        rows = (
            (["a"], "0 -> a @ 1"),
            (["a"], "2 a -> 3 a @ 1/2"),
            (["a", "b"], "2 a + b -> a + 3 b @ 13/12"),
            (["b", "a"], "b + a -> 0 @ 20"),
            (["a", "ab", "abc"], "a + 2 ab + abc -> 3 abc @ 10/3"),
            (["xy", "x", "y"], "xy -> x + y @ 7"),
        )
        taken = 0
        for words, base in rows:
            self.assertIsNotNone(turning_of(words, base))
            for text in neighbours(base):
                turning = turning_of(words, text)
                with self.subTest(words=words, text=text):
                    if turning is None:
                        self.no_text(words, [base, text], 1)
                    elif turning[0] == turning[1]:
                        self.refused(NoTurnings, words, [text])
                    else:
                        taken += 1
                        self.assertEqual(read(words, [text]), made(words, [turning]))
        # Some neighbours are turnings' texts, and not all of them are.
        self.assertGreater(taken, 50)

    def test_cut_at_any_place(self):
        words = ["a", "b"]
        text = "2 a + b -> 3 b @ 1/2"
        for place in range(len(text)):
            start, end = text[:place], text[place:]
            with self.subTest(place):
                if place != len("2 a + b -> 3 b @ 1"):
                    self.no_text(words, [start], 0)
                if end not in (text, "a + b -> 3 b @ 1/2", "b -> 3 b @ 1/2"):
                    self.no_text(words, [end], 0)
        self.assertEqual(written(read(words, ["2 a + b -> 3 b @ 1"])), ["2 a + b -> 3 b @ 1"])

    def test_all_paces_of_two_small_numbers(self):
        for top in range(25):
            for bottom in range(25):
                text = f"0 -> a @ {top}/{bottom}"
                with self.subTest(text):
                    if top > 0 and bottom > 1 and gcd(top, bottom) == 1:
                        self.assertEqual(read(["a"], [text])[1][0][2], (top, bottom))
                    else:
                        self.no_text(["a"], [text], 0)

    def test_all_heaps_of_two_terms(self):
        words = ["a", "ab"]
        terms = ["0", "a", "ab", "b", ""] + [f"{number} {word}" for number in range(6) for word in words]
        for one, two in itertools.product(terms, repeat=2):
            text = f"{one} + {two}"
            heap = heap_of(words, text)
            with self.subTest(text):
                if heap is None:
                    self.no_text(words, [text + " -> 0 @ 1"], 0)
                    self.no_text(words, ["0 -> " + text + " @ 1"], 0)
                else:
                    self.assertEqual(read(words, [text + " -> 0 @ 1"])[1][0][0], heap)
                    self.assertEqual(read(words, ["0 -> " + text + " @ 1"])[1][0][1], heap)

    def test_a_hundred_texts(self):
        self.no_text(["a"], ["0 -> a @ 1"] * 99 + ["0 -> b @ 1"], 99)
        self.no_text(["a"], ["0 -> b @ 1"] * 100, 0)
        self.refused(NoTurnings, ["a"], ["0 -> a @ 1"] * 100)


class WrongTurnings(TextTest):
    words = ["a", "b"]
    wrong = (
        [],
        ["a -> a @ 1"],
        ["0 -> 0 @ 1/2"],
        ["2 a + b -> 2 a + b @ 7"],
        ["a -> b @ 1", "3 b -> 3 b @ 1", "b -> a @ 1"],
        ["a -> b @ 1", "a -> b @ 2"],
        ["a -> b @ 1", "a -> b @ 1"],
        ["a -> b @ 1", "b -> a @ 1", "a -> b @ 1/2"],
        ["a -> b @ 1", "0 -> a @ 1", "b -> a @ 1", "0 -> a @ 7/2"],
        # Nine texts over four heaps.
        [
            "a -> b @ 1", "b -> a @ 1", "0 -> a @ 1", "a -> 0 @ 1", "0 -> b @ 1", "b -> 0 @ 1", "0 -> 2 a @ 1",
            "2 a -> 0 @ 1", "2 a -> a @ 1",
        ],
        # A ninth heap, in eight texts and in five.
        [
            "0 -> a @ 1", "a -> 2 a @ 1", "2 a -> 3 a @ 1", "3 a -> b @ 1", "b -> 2 b @ 1", "2 b -> 3 b @ 1",
            "3 b -> a + b @ 1", "a + b -> 2 a + b @ 1",
        ],
        ["0 -> a @ 1", "2 a -> 3 a @ 1", "b -> 2 b @ 1", "3 b -> a + b @ 1", "2 a + b -> 0 @ 1"],
    )

    def test_they_are_refused(self):
        for texts in self.wrong:
            with self.subTest(texts):
                self.refused(NoTurnings, self.words, texts)
                self.refused(NoTurnings, self.words, list(reversed(texts)))

    def test_one_text_fewer_is_taken(self):
        for texts in self.wrong[-3:]:
            with self.subTest(texts):
                self.assertEqual(written(read(self.words, texts[:-1])), texts[:-1])

    def test_two_of_them_at_once(self):
        self.refused(NoTurnings, self.words, ["a -> a @ 1", "a -> a @ 1"])
        self.refused(NoTurnings, self.words, ["a -> a @ 1", "a -> b @ 1", "a -> b @ 2"])
        self.refused(NoTurnings, self.words, ["a -> a @ 1"] * 9)

    def test_no_text_goes_ahead(self):
        for texts in self.wrong:
            for bad in ("", "a -> c @ 1", "4 a -> b @ 1", "a -> b @ 0", "a -> b @ 2/4", "b + a -> 0 @ 1"):
                for place in range(len(texts) + 1):
                    with self.subTest(texts=texts, bad=bad, place=place):
                        self.no_text(self.words, texts[:place] + [bad] + texts[place:], place)

    def test_no_heap_and_no_pace_are_texts_of_no_turning(self):
        # Point 7 would refuse these rows otherwise, but their texts are refused ahead of it.
        for text in ("4 a -> b @ 1", "a -> 5 b @ 1", "a -> b @ 0", "a -> b @ -1", "4 a -> 4 a @ 0"):
            with self.subTest(text):
                self.no_text(self.words, [text], 0)


class WrongStuffs(TextTest):
    def test_they_go_ahead_of_all(self):
        lists = [["a -> b @ 1"], ["0 -> a @ 1"], ["4 a -> b @ 1"], ["a -> b @ 0"], [""], ["a", "b"], [" "]]
        for words in WRONG_WORDS:
            for texts in lists + list(WrongTurnings.wrong):
                with self.subTest(words=words, texts=texts):
                    self.refused(NoStuffs, words, texts)

    def test_one_to_five_words_are_taken(self):
        words = ["a", "abcdefgh", "zz", "z", "m"]
        for length in range(1, 6):
            with self.subTest(length):
                vessel = read(words[:length], ["0 -> a @ 1"])
                self.assertEqual(vessel, made(words[:length], [[[0] * length, [1] + [0] * (length - 1), ONE]]))


if __name__ == "__main__":
    unittest.main()
