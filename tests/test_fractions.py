import random
import unittest
from fractions import Fraction

from catchhall import fractions
from catchhall.errors import CatchError, NoFraction
from catchhall.fractions import floor_of, less, made, minus, over, plus, times, total
from helping import Case, reckoned, told

MOST = 10 ** 60 - 1

SOME = (
    (0, 1), (1, 1), (-1, 1), (1, 2), (-1, 2), (2, 3), (-7, 3), (5, 4), (-12, 35), (99, 100),
    (7, 1), (-7, 1), (1, MOST), (-1, MOST), (MOST, 1), (-MOST, 1), (MOST, MOST - 1), (1 - MOST, MOST),
    (10 ** 59 + 9, 3 ** 125), (-(2 ** 199), 3 ** 125),
)


def big(chance):
    figures = chance.choice((1, 2, 5, 30, 60))
    return chance.randrange(-(10 ** figures) + 1, 10 ** figures)


class FractionCase(Case):
    def assert_told(self, answer, number):
        self.assertEqual(answer, told(number))
        self.assertIs(type(answer), tuple)
        self.assertEqual([type(part) for part in answer], [int, int])


class Made(FractionCase):
    def test_one_form(self):
        self.assertEqual(made(6, 8), (3, 4))
        self.assertEqual(made(-6, 8), (-3, 4))
        self.assertEqual(made(6, -8), (-3, 4))
        self.assertEqual(made(-6, -8), (3, 4))
        self.assertEqual(made(5, 7), (5, 7))
        self.assertEqual(made(8, 4), (2, 1))
        self.assertEqual(made(-8, 4), (-2, 1))
        self.assertEqual(made(4, -4), (-1, 1))
        self.assertEqual(made(3, 1), (3, 1))
        self.assertEqual(made(3, -1), (-3, 1))

    def test_nought_has_one_form(self):
        for bottom in (1, -1, 2, -6, MOST, -MOST):
            self.assertEqual(made(0, bottom), (0, 1))

    def test_small_numbers(self):
        for top in range(-30, 31):
            for bottom in list(range(-30, 0)) + list(range(1, 31)):
                self.assert_told(made(top, bottom), Fraction(top, bottom))

    def test_sixty_figures(self):
        self.assertEqual(made(MOST, MOST), (1, 1))
        self.assertEqual(made(MOST, -MOST), (-1, 1))
        self.assertEqual(made(MOST, 1), (MOST, 1))
        self.assertEqual(made(-1, MOST), (-1, MOST))
        self.assertEqual(made(2 * 10 ** 59, 4 * 10 ** 59), (1, 2))
        # Neighbours in this row keep the search for a divisor going the longest.
        row = [1, 1]
        while row[-1] + row[-2] <= MOST:
            row.append(row[-1] + row[-2])
        self.assertEqual(made(row[-2], row[-1]), (row[-2], row[-1]))
        chance = random.Random(5)
        for _ in range(500):
            top, bottom, shared = big(chance), big(chance) or 1, big(chance) or 1
            self.assert_told(made(top, bottom), Fraction(top, bottom))
            self.assert_told(made(top * shared, bottom * shared), Fraction(top, bottom))

    def test_bottom_of_nought(self):
        for top in (0, 1, -1, 12, MOST, -MOST):
            with self.assertRaises(NoFraction):
                made(top, 0)


class Reckoning(FractionCase):
    def assert_reckoned(self, one, two):
        self.assert_told(plus(one, two), reckoned(one) + reckoned(two))
        self.assert_told(minus(one, two), reckoned(one) - reckoned(two))
        self.assert_told(times(one, two), reckoned(one) * reckoned(two))
        if two != (0, 1):
            self.assert_told(over(one, two), reckoned(one) / reckoned(two))

    def test_by_hand(self):
        self.assertEqual(plus((1, 2), (1, 3)), (5, 6))
        self.assertEqual(plus((1, 6), (1, 3)), (1, 2))
        self.assertEqual(plus((1, 2), (-1, 2)), (0, 1))
        self.assertEqual(minus((1, 2), (1, 3)), (1, 6))
        self.assertEqual(minus((1, 3), (1, 2)), (-1, 6))
        self.assertEqual(minus((5, 7), (5, 7)), (0, 1))
        self.assertEqual(times((2, 3), (3, 4)), (1, 2))
        self.assertEqual(times((-2, 3), (0, 1)), (0, 1))
        self.assertEqual(over((2, 3), (4, 3)), (1, 2))
        self.assertEqual(over((2, 3), (-4, 3)), (-1, 2))
        self.assertEqual(over((-2, 3), (-4, 3)), (1, 2))
        self.assertEqual(over((0, 1), (-4, 3)), (0, 1))

    def test_each_two(self):
        for one in SOME:
            for two in SOME:
                self.assert_reckoned(one, two)

    def test_many(self):
        chance = random.Random(6)
        for _ in range(500):
            one = told(Fraction(big(chance), big(chance) or 1))
            two = told(Fraction(big(chance), big(chance) or 1))
            self.assert_reckoned(one, two)

    def test_what_is_told_may_be_handed_in_again(self):
        one = (MOST, MOST - 1)
        number = reckoned(one)
        for _ in range(5):
            one = over(plus(times(one, one), one), (3, MOST))
            number = (number * number + number) / Fraction(3, MOST)
            self.assert_told(one, number)

    def test_over_nought(self):
        for one in SOME:
            with self.assertRaises(NoFraction):
                over(one, (0, 1))

    def test_a_refusal_is_a_catch_error(self):
        with self.assertRaises(CatchError):
            made(1, 0)
        with self.assertRaises(ValueError):
            over((1, 1), (0, 1))


class Less(FractionCase):
    def test_by_hand(self):
        self.assertIs(less((1, 3), (1, 2)), True)
        self.assertIs(less((1, 2), (1, 3)), False)
        self.assertIs(less((-1, 2), (-1, 3)), True)
        self.assertIs(less((-1, 3), (-1, 2)), False)
        self.assertIs(less((-1, 2), (0, 1)), True)
        self.assertIs(less((0, 1), (-1, 2)), False)

    def test_each_two(self):
        for one in SOME:
            for two in SOME:
                self.assertIs(less(one, two), reckoned(one) < reckoned(two), (one, two))

    def test_equal_ones(self):
        for one in SOME:
            self.assertIs(less(one, one), False)

    def test_very_near_ones(self):
        self.assertIs(less((MOST - 2, MOST - 1), (MOST - 1, MOST)), True)
        self.assertIs(less((MOST - 1, MOST), (MOST - 2, MOST - 1)), False)


class Floor(FractionCase):
    def test_by_hand(self):
        floors = (
            ((7, 2), 3), ((-7, 2), -4), ((1, 2), 0), ((-1, 2), -1), ((0, 1), 0), ((4, 1), 4),
            ((-4, 1), -4), ((99, 100), 0), ((-99, 100), -1), ((1, MOST), 0), ((-1, MOST), -1),
            ((MOST, 1), MOST), ((-MOST, 1), -MOST), ((MOST, MOST - 1), 1), ((-MOST, MOST - 1), -2),
        )
        for one, floor in floors:
            self.assertEqual(floor_of(one), floor)
            self.assertIs(type(floor_of(one)), int)

    def test_greatest_that_is_no_greater(self):
        for one in SOME:
            floor = floor_of(one)
            self.assertLessEqual(floor, reckoned(one))
            self.assertGreater(floor + 1, reckoned(one))


class Total(FractionCase):
    def test_none_one_and_many(self):
        self.assertEqual(total([]), (0, 1))
        for one in SOME:
            self.assertEqual(total([one]), one)
        self.assertEqual(total([(1, 2), (1, 3), (1, 6)]), (1, 1))
        self.assertEqual(total([(1, 2), (-1, 3), (-1, 6)]), (0, 1))
        self.assert_told(total(list(SOME)), sum(reckoned(one) for one in SOME))
        self.assert_told(total([(1, 6)] * 300), Fraction(50))

    def test_the_list_is_unchanged(self):
        some = [(1, 2), (2, 3), (-1, 5)]
        first = total(some)
        self.assertEqual(some, [(1, 2), (2, 3), (-1, 5)])
        self.assertEqual(total(some), first)


class Interface(Case):
    def test_names_and_arguments(self):
        self.assert_arguments(fractions, {
            "made": ["top", "bottom"], "plus": ["one", "two"], "minus": ["one", "two"],
            "times": ["one", "two"], "over": ["one", "two"], "less": ["one", "two"],
            "floor_of": ["one"], "total": ["some"],
        })


if __name__ == "__main__":
    unittest.main()
