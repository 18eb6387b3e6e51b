import inspect
import unittest

from vesselhall import errors

REFUSALS = (
    "NoFraction", "NoStuffs", "NoHeap", "NoPace", "NoTurnings", "NoTurning", "NoText",
    "NotNow", "TooMany", "NoDrain", "NotEven", "NoStuff", "NoPieces", "NoDeed",
)


def made_of(kind, values):
    # In which order an error is made of what is the program's own affair.
    names = list(inspect.signature(kind).parameters)
    return kind(*values[:len(names)])


class Classes(unittest.TestCase):
    def test_vessel_error_is_straight_under_value_error(self):
        self.assertEqual(errors.VesselError.__bases__, (ValueError,))

    def test_each_refusal_is_there_straight_under_vessel_error(self):
        for name in REFUSALS:
            with self.subTest(name):
                kind = getattr(errors, name)
                self.assertEqual(kind.__bases__, (errors.VesselError,))
                self.assertEqual(kind.__name__, name)
                self.assertTrue(issubclass(kind, ValueError))

    def test_no_refusal_is_under_another(self):
        for one in REFUSALS:
            for two in REFUSALS:
                with self.subTest(one=one, two=two):
                    under = issubclass(getattr(errors, one), getattr(errors, two))
                    self.assertEqual(under, one == two)


class Fields(unittest.TestCase):
    def test_at_is_set_when_the_error_is_made(self):
        for name in ("NoText", "NotNow"):
            for values in ((0, 0, 0), (7, 8, 9)):
                with self.subTest(name=name, values=values):
                    error = made_of(getattr(errors, name), values)
                    self.assertIn(error.at, values)

    def test_counts_are_set_when_the_error_is_made(self):
        counts = [((1, 0), []), ((0, 1), [0])]
        error = made_of(errors.TooMany, (counts, counts, counts))
        self.assertEqual(error.counts, [((1, 0), []), ((0, 1), [0])])

    def test_two_errors_keep_their_own_fields(self):
        one = made_of(errors.NotNow, (1, 1, 1))
        two = made_of(errors.NotNow, (2, 2, 2))
        self.assertEqual((one.at, two.at), (1, 2))

    def test_errors_with_fields_are_taken_as_vessel_errors(self):
        for name in ("NoText", "NotNow"):
            with self.subTest(name):
                with self.assertRaises(errors.VesselError):
                    raise made_of(getattr(errors, name), (3, 3, 3))
        with self.assertRaises(errors.VesselError):
            raise made_of(errors.TooMany, ([], [], []))


if __name__ == "__main__":
    unittest.main()
