import unittest

from catchhall import errors

REFUSALS = (
    "NoFraction", "BadLine", "Outside", "Unlike", "BadWay", "BadWeights",
    "BadClaim", "TooMany", "NoBoat", "BadCatch", "NoText",
)


class Errors(unittest.TestCase):
    def test_catch_error_stands_straight_under_value_error(self):
        self.assertEqual(errors.CatchError.__bases__, (ValueError,))

    def test_each_refusal_stands_straight_under_catch_error(self):
        for name in REFUSALS:
            self.assertEqual(getattr(errors, name).__bases__, (errors.CatchError,), name)

    def test_each_refusal_is_a_class_of_its_own(self):
        for one in REFUSALS:
            self.assertEqual(getattr(errors, one).__name__, one)
            for two in REFUSALS:
                stands_under = issubclass(getattr(errors, one), getattr(errors, two))
                self.assertEqual(stands_under, one == two, (one, two))

    def test_each_refusal_is_raised_and_taken_by_name(self):
        for name in REFUSALS:
            with self.assertRaises(ValueError) as taken:
                raise getattr(errors, name)("some words")
            self.assertIs(taken.exception.__class__, getattr(errors, name))


if __name__ == "__main__":
    unittest.main()
