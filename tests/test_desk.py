import random
import unittest

from vesselhall import errors
from vesselhall.desk import Desk
from vesselhall.errors import (
    NoDeed, NoPieces, NoStuff, NoStuffs, NoText, NotNow, NoTurning, NoTurnings, VesselError)
from vesselhall.even import even, shares
from vesselhall.texts import read, written
from vesselhall.vessels import heaps, made
from vesselhall.walks import walked

FORWARD = "2 a + b -> 3 c @ 1/2"
BACK = "3 c -> 2 a + b @ 4"
OUT = "a -> 0 @ 7"
LONG = "b -> c @ 999999999999999999999999999999/100000000000000000000000000007"
WRONG_TEXTS = (
    "", " ", "a", "a -> b", "a -> b @", "a -> b @ 0", "a -> b @ -1", "a -> b @ 2/4", "a -> b @ 1/1", "a -> b @ 01",
    "a->b@1", "1 a -> b @ 1", "4 a -> b @ 1", "b + a -> c @ 1", "a + a -> b @ 1", "a -> d @ 1", "a -> b @ 1 ",
    " a -> b @ 1", "0 a -> b @ 1", "a -> b @ 1/0", "a -> a @ 2/4", "A -> b @ 1", "a -> b @ 1.0", "a" * 300,
)
WRONG_WORDS = (
    [], ["a", "b", "c", "d", "e", "f"], [""], ["A"], ["a", "a"], ["abcdefghi"], ["a", "b "], ["a1"], ["a", ""], ["~"],
)
EIGHT = (
    "a -> b @ 1", "b -> c @ 2", "c -> a @ 3", "b -> a @ 4", "c -> b @ 5", "a -> c @ 6", "0 -> a @ 7", "a -> 0 @ 8")


def state(desk):
    return (desk.texts(), desk.count())


class DeskTest(unittest.TestCase):
    def refused(self, kind, call, *handed):
        with self.assertRaises(VesselError) as caught:
            call(*handed)
        error = caught.exception
        self.assertIs(type(error), kind)
        self.assertIsInstance(error, ValueError)
        return error

    def refused_at_0(self, kind, call, *handed):
        error = self.refused(kind, call, *handed)
        self.assertIs(type(error.at), int)
        self.assertEqual(error.at, 0)

    def refused_and_unchanged(self, desk, kind, call, *handed):
        ahead = state(desk)
        error = self.refused(kind, call, *handed)
        self.assertEqual(state(desk), ahead)
        return error

    def desk(self, *texts):
        desk = Desk(["a", "b", "c"])
        for text in texts:
            self.assertIsNone(desk.put(text))
        return desk

    def undone_down_to_none(self, desk, states):
        """Undoes all deeds, which brings these states, the last one first."""
        for ahead in reversed(states):
            self.assertIsNone(desk.undo())
            self.assertEqual(state(desk), ahead)
        self.refused_and_unchanged(desk, NoDeed, desk.undo)
        self.refused_and_unchanged(desk, NoDeed, desk.undo)


class Making(DeskTest):
    def test_a_new_desk(self):
        desk = Desk(["a", "b", "c"])
        self.assertEqual(desk.texts(), [])
        self.assertEqual(desk.count(), [("a", 0), ("b", 0), ("c", 0)])
        self.refused(NoTurnings, desk.vessel)
        self.refused(NoDeed, desk.undo)

    def test_one_to_five_words(self):
        for words in (["a"], ["z", "y"], ["abcdefgh", "a", "b"], ["d", "c", "b", "a"], ["e", "a", "d", "b", "c"]):
            self.assertEqual(Desk(words).count(), [(word, 0) for word in words])

    def test_words_that_are_none_such(self):
        for words in WRONG_WORDS:
            with self.subTest(words=words):
                self.refused(NoStuffs, Desk, words)

    def test_the_word_list_may_be_changed_behind_the_call(self):
        words = ["a", "b", "c"]
        desk = Desk(words)
        self.assertEqual(words, ["a", "b", "c"])
        words[0] = "z"
        words.append("d")
        desk.put(FORWARD)
        self.assertEqual(desk.count(), [("a", 0), ("b", 0), ("c", 0)])
        self.assertEqual(desk.vessel()[0], ("a", "b", "c"))
        words.clear()
        desk.pour("a", 1)
        self.assertEqual(desk.count(), [("a", 1), ("b", 0), ("c", 0)])
        self.refused(NoStuff, desk.pour, "z", 1)


class PuttingIn(DeskTest):
    def test_texts_stand_in_the_order_in_which_they_were_put_in(self):
        desk = self.desk(LONG, OUT, BACK, FORWARD)
        self.assertEqual(desk.texts(), [LONG, OUT, BACK, FORWARD])
        self.assertEqual(desk.vessel(), read(["a", "b", "c"], [LONG, OUT, BACK, FORWARD]))

    def test_the_vessel(self):
        desk = self.desk(FORWARD)
        rows = [[[2, 1, 0], [0, 0, 3], (1, 2)], [[0, 0, 3], [2, 1, 0], (4, 1)]]
        self.assertEqual(desk.vessel(), made(["a", "b", "c"], rows[:1]))
        desk.put(BACK)
        self.assertEqual(desk.vessel(), made(["a", "b", "c"], rows))
        self.assertEqual(written(desk.vessel()), desk.texts())
        self.assertIs(even(desk.vessel())[0], True)
        self.assertEqual(len(shares(desk.vessel(), (2, 1, 0))), 2)

    def test_texts_of_no_turning(self):
        for texts in ((), (FORWARD,), EIGHT):
            desk = self.desk(*texts)
            for text in WRONG_TEXTS:
                with self.subTest(text=text):
                    self.refused_at_0(NoText, desk.put, text)
                    self.assertEqual(desk.texts(), list(texts))

    def test_from_and_to_alike(self):
        desk = self.desk(FORWARD)
        for text in ("a -> a @ 1", "0 -> 0 @ 1/2", "2 a + b -> 2 a + b @ 3"):
            self.refused_and_unchanged(desk, NoTurnings, desk.put, text)
        self.refused(NoTurnings, self.desk().put, "a -> a @ 1")

    def test_the_same_from_and_to_as_one_that_lies_there(self):
        desk = self.desk(FORWARD, OUT, BACK)
        for text in (FORWARD, OUT, BACK, "2 a + b -> 3 c @ 1", "a -> 0 @ 1/7", "3 c -> 2 a + b @ 5"):
            self.refused_and_unchanged(desk, NoTurnings, desk.put, text)
        desk.take(OUT)
        desk.put("a -> 0 @ 1/7")
        self.assertEqual(desk.texts(), [FORWARD, BACK, "a -> 0 @ 1/7"])

    def test_the_ninth_turning(self):
        desk = self.desk(*EIGHT)
        self.assertEqual(desk.texts(), list(EIGHT))
        self.refused_and_unchanged(desk, NoTurnings, desk.put, "0 -> b @ 1")
        self.refused_at_0(NoText, desk.put, "0 -> b @ 0")
        desk.take(EIGHT[3])
        desk.put("0 -> b @ 1")
        self.refused_and_unchanged(desk, NoTurnings, desk.put, EIGHT[3])
        self.assertEqual(desk.texts(), list(EIGHT[:3] + EIGHT[4:]) + ["0 -> b @ 1"])

    def test_the_ninth_heap(self):
        four = ("0 -> a @ 1", "2 a -> 3 a @ 1", "b -> 2 b @ 1", "c -> 2 c @ 1")
        desk = self.desk(*four)
        self.assertEqual(len(heaps(desk.vessel())), 8)
        for text in ("3 b -> a @ 1", "a -> 3 b @ 1", "3 b -> 3 c @ 1"):
            self.refused_and_unchanged(desk, NoTurnings, desk.put, text)
        desk.put("a -> 2 a @ 1")
        self.refused_and_unchanged(desk, NoTurnings, desk.put, "a -> 3 b @ 1")
        # With a turning its heaps go: where no other one has them, there is room again.
        desk.take("0 -> a @ 1")
        desk.put("a -> 3 b @ 1")
        self.assertEqual(len(heaps(desk.vessel())), 8)
        self.refused_and_unchanged(desk, NoTurnings, desk.put, "0 -> a @ 1")
        # Seven heaps and two new ones.
        desk = self.desk("0 -> a @ 1", "2 a -> 3 a @ 1", "b -> 2 b @ 1", "b -> 3 b @ 1")
        self.refused_and_unchanged(desk, NoTurnings, desk.put, "c -> 2 c @ 1")
        desk.put("c -> 0 @ 1")


class TakingOut(DeskTest):
    def test_taken_out(self):
        desk = self.desk(FORWARD, OUT, BACK)
        self.assertIsNone(desk.take(OUT))
        self.assertEqual(desk.texts(), [FORWARD, BACK])
        self.assertEqual(desk.vessel(), read(["a", "b", "c"], [FORWARD, BACK]))
        desk.put(OUT)
        self.assertEqual(desk.texts(), [FORWARD, BACK, OUT])
        for text in (BACK, FORWARD, OUT):
            desk.take(text)
        self.assertEqual(desk.texts(), [])
        self.refused(NoTurnings, desk.vessel)

    def test_what_does_not_lie_there(self):
        desk = self.desk(FORWARD, OUT)
        for text in WRONG_TEXTS + (BACK, LONG, "2 a + b -> 3 c @ 1", "a -> 0 @ 1/7", "a -> a @ 1"):
            with self.subTest(text=text):
                self.refused_and_unchanged(desk, NoTurning, desk.take, text)
        desk.take(OUT)
        self.refused_and_unchanged(desk, NoTurning, desk.take, OUT)
        self.refused(NoTurning, self.desk().take, FORWARD)

    def test_the_count_stays(self):
        desk = self.desk(FORWARD, OUT)
        desk.pour("a", 5)
        desk.turn(OUT)
        desk.take(OUT)
        desk.take(FORWARD)
        self.assertEqual(desk.count(), [("a", 4), ("b", 0), ("c", 0)])


class Pouring(DeskTest):
    def test_pieces_are_put_in_and_out(self):
        desk = self.desk()
        self.assertIsNone(desk.pour("b", 3))
        self.assertEqual(desk.count(), [("a", 0), ("b", 3), ("c", 0)])
        desk.pour("c", 10 ** 40 - 1)
        desk.pour("b", -1)
        desk.pour("a", 0)
        self.assertEqual(desk.count(), [("a", 0), ("b", 2), ("c", 10 ** 40 - 1)])
        desk.pour("b", -2)
        desk.pour("c", -10 ** 40 + 1)
        self.assertEqual(desk.count(), [("a", 0), ("b", 0), ("c", 0)])

    def test_no_stuff(self):
        desk = self.desk(FORWARD)
        for word in ("d", "", "A", "ab", "a ", "0", "2 a", "abc", "abcdefghi", FORWARD):
            for pieces in (1, 0, -1, 10 ** 40 - 1, -10 ** 40 + 1):
                self.refused_and_unchanged(desk, NoStuff, desk.pour, word, pieces)

    def test_no_pieces(self):
        desk = self.desk()
        desk.pour("b", 3)
        for word, pieces in (("a", -1), ("b", -4), ("c", -10 ** 40 + 1), ("b", -10 ** 39)):
            self.refused_and_unchanged(desk, NoPieces, desk.pour, word, pieces)
        desk.pour("b", -3)
        self.refused_and_unchanged(desk, NoPieces, desk.pour, "b", -1)


class Turning(DeskTest):
    def test_turnings_are_made(self):
        desk = self.desk(FORWARD, BACK, OUT)
        desk.pour("a", 4)
        desk.pour("b", 5)
        self.assertIsNone(desk.turn(FORWARD))
        self.assertEqual(desk.count(), [("a", 2), ("b", 4), ("c", 3)])
        desk.turn(FORWARD)
        desk.turn(BACK)
        desk.turn(OUT)
        self.assertEqual(desk.count(), [("a", 1), ("b", 4), ("c", 3)])
        behind = walked(desk.vessel(), [0, 0, 1, 2], (4, 5, 0))
        self.assertEqual(tuple([pieces for word, pieces in desk.count()]), behind)

    def test_what_does_not_lie_there(self):
        desk = self.desk(FORWARD, OUT)
        for word in ("a", "b", "c"):
            desk.pour(word, 9)
        for text in WRONG_TEXTS + (BACK, LONG, "2 a + b -> 3 c @ 1", "a -> 0 @ 1/7"):
            with self.subTest(text=text):
                self.refused_and_unchanged(desk, NoTurning, desk.turn, text)
        desk.take(OUT)
        self.refused_and_unchanged(desk, NoTurning, desk.turn, OUT)

    def test_what_cannot_be_made(self):
        desk = self.desk(FORWARD, "a + b -> a + c @ 1", "0 -> a @ 1")
        self.refused_at_0(NotNow, desk.turn, FORWARD)
        desk.pour("a", 2)
        self.assertEqual(self.refused_and_unchanged(desk, NotNow, desk.turn, FORWARD).at, 0)
        desk.pour("b", 1)
        desk.pour("a", -1)
        self.assertEqual(self.refused_and_unchanged(desk, NotNow, desk.turn, FORWARD).at, 0)
        desk.turn("0 -> a @ 1")
        desk.turn(FORWARD)
        self.assertEqual(self.refused_and_unchanged(desk, NotNow, desk.turn, FORWARD).at, 0)
        # What is put back is needed all the same.
        desk.pour("b", 1)
        self.assertEqual(self.refused_and_unchanged(desk, NotNow, desk.turn, "a + b -> a + c @ 1").at, 0)

    def test_no_turning_goes_ahead_of_not_now(self):
        desk = self.desk(FORWARD)
        self.refused(NoTurning, desk.turn, BACK)
        self.refused(NotNow, desk.turn, FORWARD)

    def test_counts_of_many_figures(self):
        desk = self.desk(FORWARD)
        desk.pour("a", 10 ** 40 - 1)
        desk.pour("b", 10 ** 39)
        desk.turn(FORWARD)
        self.assertEqual(desk.count(), [("a", 10 ** 40 - 3), ("b", 10 ** 39 - 1), ("c", 3)])


class Undoing(DeskTest):
    def test_each_deed(self):
        desk = self.desk()
        states = []
        for call, handed in ((desk.put, (OUT,)), (desk.put, (FORWARD,)), (desk.pour, ("a", 7)), (desk.put, (BACK,)),
                             (desk.turn, (OUT,)), (desk.pour, ("b", 2)), (desk.turn, (FORWARD,)),
                             (desk.take, (FORWARD,)), (desk.pour, ("a", -4)), (desk.pour, ("c", 0)),
                             (desk.turn, (BACK,)), (desk.take, (OUT,)), (desk.take, (BACK,)), (desk.put, (OUT,))):
            states.append(state(desk))
            call(*handed)
        self.assertEqual(desk.texts(), [OUT])
        self.undone_down_to_none(desk, states)
        self.assertEqual(state(desk), ([], [("a", 0), ("b", 0), ("c", 0)]))

    def test_what_was_taken_out_comes_back_to_its_place(self):
        for place in range(8):
            desk = self.desk(*EIGHT)
            desk.take(EIGHT[place])
            self.assertEqual(desk.texts(), list(EIGHT[:place] + EIGHT[place + 1:]))
            desk.undo()
            self.assertEqual(desk.texts(), list(EIGHT))
            self.assertEqual(desk.vessel(), read(["a", "b", "c"], list(EIGHT)))

    def test_taken_out_and_put_in_again(self):
        desk = self.desk(FORWARD, OUT, BACK)
        desk.take(FORWARD)
        desk.put(FORWARD)
        self.assertEqual(desk.texts(), [OUT, BACK, FORWARD])
        desk.undo()
        self.assertEqual(desk.texts(), [OUT, BACK])
        desk.undo()
        self.assertEqual(desk.texts(), [FORWARD, OUT, BACK])

    def test_a_deed_that_changes_nothing_is_kept(self):
        desk = self.desk("a -> b @ 1")
        desk.pour("a", 1)
        desk.pour("b", 0)
        desk.undo()
        self.assertEqual(desk.count()[0], ("a", 1))
        desk.undo()
        self.assertEqual(desk.count()[0], ("a", 0))

    def test_a_refused_deed_is_not_kept(self):
        desk = self.desk(FORWARD)
        desk.pour("a", 2)
        ahead = state(desk)
        desk.pour("b", 1)
        for kind, call, handed in ((NoText, desk.put, ("a",)), (NoTurnings, desk.put, (FORWARD,)),
                                   (NoTurning, desk.take, (BACK,)), (NoStuff, desk.pour, ("d", 1)),
                                   (NoPieces, desk.pour, ("c", -1)), (NoTurning, desk.turn, (BACK,))):
            self.refused_and_unchanged(desk, kind, call, *handed)
        desk.put(OUT)
        desk.pour("a", -2)
        self.refused_and_unchanged(desk, NotNow, desk.turn, OUT)
        for deed in range(3):
            desk.undo()
        self.assertEqual(state(desk), ahead)

    def test_asking_and_undoing_are_no_deeds(self):
        desk = self.desk(FORWARD)
        desk.pour("a", 2)
        desk.pour("a", 1)
        desk.undo()
        desk.texts()
        desk.count()
        desk.vessel()
        desk.undo()
        self.assertEqual(desk.count()[0], ("a", 0))
        desk.undo()
        self.assertEqual(desk.texts(), [])
        self.refused(NoDeed, desk.undo)

    def test_another_deed_in_the_place_of_the_undone_one(self):
        desk = self.desk(FORWARD)
        desk.put(BACK)
        desk.undo()
        desk.put(OUT)
        self.assertEqual(desk.texts(), [FORWARD, OUT])
        desk.undo()
        self.assertEqual(desk.texts(), [FORWARD])
        desk.undo()
        self.refused(NoDeed, desk.undo)
        desk.pour("c", 1)
        desk.undo()
        self.refused(NoDeed, desk.undo)

    def test_many_deeds(self):
        desk = self.desk("0 -> a @ 1", "a -> 0 @ 1")
        states = []
        for deed in range(500):
            states.append(state(desk))
            desk.turn("a -> 0 @ 1" if deed % 5 == 4 else "0 -> a @ 1")
        self.assertEqual(desk.count()[0], ("a", 300))
        states = [([], [("a", 0), ("b", 0), ("c", 0)]), (["0 -> a @ 1"], [("a", 0), ("b", 0), ("c", 0)])] + states
        self.undone_down_to_none(desk, states)


class ToldLists(DeskTest):
    def test_they_may_be_changed_behind_the_call(self):
        desk = self.desk(FORWARD, BACK)
        desk.pour("a", 2)
        texts = desk.texts()
        count = desk.count()
        self.assertIs(type(texts), list)
        self.assertIs(type(count), list)
        self.assertEqual([type(pair) for pair in count], [tuple] * 3)
        texts.reverse()
        texts.append(OUT)
        count.clear()
        self.assertEqual(state(desk), ([FORWARD, BACK], [("a", 2), ("b", 0), ("c", 0)]))
        self.refused(NoTurning, desk.take, OUT)
        desk.texts().clear()
        desk.count()[0] = ("a", 99)
        self.assertEqual(state(desk), ([FORWARD, BACK], [("a", 2), ("b", 0), ("c", 0)]))

    def test_what_was_told_stays_as_it_was(self):
        desk = self.desk(FORWARD)
        texts = desk.texts()
        count = desk.count()
        vessel = desk.vessel()
        desk.put(BACK)
        desk.pour("a", 2)
        desk.take(FORWARD)
        desk.undo()
        self.assertEqual(texts, [FORWARD])
        self.assertEqual(count, [("a", 0), ("b", 0), ("c", 0)])
        self.assertEqual(vessel, read(["a", "b", "c"], [FORWARD]))

    def test_the_same_asked_again(self):
        desk = self.desk(FORWARD, BACK)
        self.assertEqual(state(desk), state(desk))
        self.assertEqual(desk.vessel(), desk.vessel())


class TwoDesks(DeskTest):
    def test_they_do_not_touch_one_another(self):
        words = ["a", "b", "c"]
        one = Desk(words)
        two = Desk(words)
        one.put(FORWARD)
        one.pour("a", 2)
        self.assertEqual(state(two), ([], [("a", 0), ("b", 0), ("c", 0)]))
        self.refused(NoDeed, two.undo)
        two.put(OUT)
        two.pour("c", 3)
        two.put(FORWARD)
        one.undo()
        self.assertEqual(state(one), ([FORWARD], [("a", 0), ("b", 0), ("c", 0)]))
        self.assertEqual(state(two), ([OUT, FORWARD], [("a", 0), ("b", 0), ("c", 3)]))
        one.undo()
        self.refused(NoDeed, one.undo)
        two.undo()
        self.assertEqual(state(two), ([OUT], [("a", 0), ("b", 0), ("c", 3)]))


class Slate:
    """What a desk has to tell, kept in the plainest way: all states, written out."""

    def __init__(self, words):
        self.words = words
        self.lying = []
        self.pieces = dict.fromkeys(words, 0)
        self.ahead = []

    def state(self):
        return ([text for text, one, two in self.lying], list(self.pieces.items()))

    def put(self, text, one, two):
        found = {heap for turning in self.lying for heap in turning[1:]} | {one, two}
        if one == two or (one, two) in [turning[1:] for turning in self.lying]:
            return NoTurnings
        if len(self.lying) == 8 or len(found) > 8:
            return NoTurnings
        return (self.lying + [(text, one, two)], self.pieces)

    def take(self, text):
        if text not in self.state()[0]:
            return NoTurning
        return ([turning for turning in self.lying if turning[0] != text], self.pieces)

    def pour(self, word, pieces):
        if word not in self.words:
            return NoStuff
        if self.pieces[word] + pieces < 0:
            return NoPieces
        behind = dict(self.pieces)
        behind[word] += pieces
        return (self.lying, behind)

    def turn(self, text):
        for other, one, two in self.lying:
            if other == text:
                behind = dict(self.pieces)
                for word, taken, put in zip(self.words, one, two):
                    if behind[word] < taken:
                        return NotNow
                    behind[word] += put - taken
                return (self.lying, behind)
        return NoTurning

    def undo(self):
        if not self.ahead:
            return NoDeed
        return self.ahead[-1]


class ManyDeeds(DeskTest):
    """Desks with drawn deeds, refused ones among them, held against a slate."""

    def drawn_turnings(self, chance, words):
        signs = chance.choice(((0, 1), (0, 0, 1, 2), (0, 1, 2, 3)))
        pool = [tuple([chance.choice(signs) for word in words]) for heap in range(chance.randint(2, 11))]
        told = []
        for turning in range(14):
            one, two = chance.choice(pool), chance.choice(pool)
            pace = chance.choice(("1", "2", "7/3", "999999999999999999999999999999/100000000000000000000000000007"))
            parts = []
            for heap in (one, two):
                terms = [word if pieces == 1 else f"{pieces} {word}" for word, pieces in zip(words, heap) if pieces]
                parts.append(" + ".join(terms) or "0")
            told.append((f"{parts[0]} -> {parts[1]} @ {pace}", one, two))
        return told

    def drawn_deed(self, chance, words, turnings):
        text, one, two = chance.choice(turnings)
        pieces = chance.choice((0, 1, 2, 5, -1, -3, 10 ** 40 - 1, -10 ** 40 + 1))
        return chance.choice((
            ("put", (text,), (text, one, two)), ("put", (text,), (text, one, two)), ("take", (text,), (text,)),
            ("pour", (chance.choice(words), pieces), None), ("pour", (chance.choice(words + ["q"]), pieces), None),
            ("turn", (text,), None), ("turn", (text,), None), ("turn", (text,), None), ("undo", (), None)))

    def check_deed(self, desk, slate, name, handed, known):
        asked = getattr(slate, name)(*(handed if known is None else known))
        if isinstance(asked, type):
            error = self.refused_and_unchanged(desk, asked, getattr(desk, name), *handed)
            self.assertEqual(getattr(error, "at", 0), 0)
            return (name, asked.__name__)
        if name == "undo":
            slate.ahead.pop()
        else:
            slate.ahead.append((slate.lying, slate.pieces))
        slate.lying, slate.pieces = asked
        self.assertIsNone(getattr(desk, name)(*handed))
        return (name, None)

    def check_vessel(self, desk, slate):
        if slate.lying:
            self.assertEqual(desk.vessel(), read(slate.words, slate.state()[0]))
        else:
            self.refused_and_unchanged(desk, NoTurnings, desk.vessel)

    def test_drawn_deeds(self):
        chance = random.Random(73)
        met = {}
        for trial in range(60):
            words = ["ab", "a", "c", "abc", "zzzzzzzz"][:1 + trial % 5]
            desk = Desk(list(words))
            slate = Slate(words)
            turnings = self.drawn_turnings(chance, words)
            for deed in range(120):
                name, handed, known = self.drawn_deed(chance, words, turnings)
                end = self.check_deed(desk, slate, name, handed, known)
                met[end] = met.get(end, 0) + 1
                self.assertEqual(state(desk), slate.state())
                self.check_vessel(desk, slate)
            while slate.ahead:
                slate.lying, slate.pieces = slate.ahead.pop()
                desk.undo()
                self.assertEqual(state(desk), slate.state())
            self.refused_and_unchanged(desk, NoDeed, desk.undo)
        for end in (("put", None), ("put", "NoTurnings"), ("take", None), ("take", "NoTurning"), ("pour", None),
                    ("pour", "NoStuff"), ("pour", "NoPieces"), ("turn", None), ("turn", "NoTurning"),
                    ("turn", "NotNow"), ("undo", None), ("undo", "NoDeed")):
            self.assertGreater(met.get(end, 0), 20, end)


class Refusals(DeskTest):
    def test_each_is_a_class_of_its_own(self):
        for name in ("NoStuffs", "NoText", "NoTurnings", "NoTurning", "NoStuff", "NoPieces", "NotNow", "NoDeed"):
            self.assertEqual(getattr(errors, name).__bases__, (VesselError,))


if __name__ == "__main__":
    unittest.main()
