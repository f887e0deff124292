import copy
import random
import unittest
from fractions import Fraction

from catchhall import lines
from catchhall.errors import BadLine, CatchError, Outside, Unlike
from catchhall.lines import behind, height, length, line_of, stretch, sum_of, turned, value
from helping import TINY, Case, looked_at, points_of, reckoned, reckoned_value, told

ONE_POINT = (((0, 1), (0, 1)),)


def line_by(*pairs):
    return line_of(points_of(*pairs))


def drawn_line(chance, end=None, top=None, most=6):
    """A line of up to `most` pieces, some of them level, stretched to a length and height where these are told."""
    points = [(Fraction(0), Fraction(0))]
    for _ in range(chance.randrange(1, most + 1)):
        x, y = points[-1]
        rise = chance.choice((0, 0, Fraction(chance.randrange(1, 9), chance.randrange(1, 5))))
        points.append((x + Fraction(chance.randrange(1, 9), chance.randrange(1, 5)), y + rise))
    if top is not None and points[-1][1] == 0:
        points.append((points[-1][0] + 1, Fraction(1)))
    wide = 1 if end is None else end / points[-1][0]
    tall = 1 if top is None else top / points[-1][1]
    return line_by(*[(x * wide, y * tall) for x, y in points])


class LineOf(Case):
    def test_points_as_they_are(self):
        points = points_of((0, 0), (1, 2), (3, 3), (4, 3), (5, 7))
        self.assertEqual(line_of(points), tuple(points))
        self.assertEqual(line_of(tuple(points)), tuple(points))
        self.assert_line(line_of(points))

    def test_one_point_alone(self):
        self.assertEqual(line_of([((0, 1), (0, 1))]), ONE_POINT)
        self.assertEqual(line_of((((0, 1), (0, 1)),)), ONE_POINT)

    def test_two_points(self):
        for pair in ((1, 0), (1, 1), (Fraction(1, 3), Fraction(7, 2))):
            points = points_of((0, 0), pair)
            self.assertEqual(line_of(points), tuple(points))

    def test_points_straight_between_are_left_out(self):
        self.assertEqual(line_by((0, 0), (1, 1), (2, 2)), line_by((0, 0), (2, 2)))
        self.assertEqual(line_by((0, 0), (1, 1), (2, 2)), tuple(points_of((0, 0), (2, 2))))
        self.assertEqual(
            line_by((0, 0), (1, 2), (2, 4), (Fraction(5, 2), 5), (3, 6), (4, 6), (5, 9), (6, 12)),
            tuple(points_of((0, 0), (3, 6), (4, 6), (6, 12))),
        )
        self.assertEqual(line_by(*[(k, 3 * k) for k in range(200)]), tuple(points_of((0, 0), (199, 597))))

    def test_level_stretches(self):
        self.assertEqual(line_by((0, 0), (1, 0), (2, 0), (5, 0)), tuple(points_of((0, 0), (5, 0))))
        self.assertEqual(
            line_by((0, 0), (1, 0), (2, 0), (3, 1), (4, 1), (5, 1), (6, 1), (7, 2), (8, 2), (9, 2)),
            tuple(points_of((0, 0), (2, 0), (3, 1), (6, 1), (7, 2), (9, 2))),
        )

    def test_points_very_near_to_straight_stay(self):
        nearly = (told(1), told(1 + reckoned(TINY)))
        points = (((0, 1), (0, 1)), nearly, ((2, 1), (2, 1)))
        self.assertEqual(line_of(points), points)
        nearly = (told(1), told(1 - reckoned(TINY)))
        points = (((0, 1), (0, 1)), nearly, ((2, 1), (2, 1)))
        self.assertEqual(line_of(points), points)

    def test_more_points_on_a_line_change_nothing(self):
        chance = random.Random(11)
        for _ in range(100):
            line = drawn_line(chance)
            self.assert_line(line)
            more = line_by(*[(x, reckoned_value(line, x)) for x in looked_at(line)])
            self.assertEqual(more, line)
            self.assertEqual(line_of(line), line)
            self.assertEqual(line_of(list(line)), line)

    def test_what_is_handed_in_stays(self):
        points = points_of((0, 0), (1, 1), (2, 2), (3, 2), (4, 2))
        before = copy.deepcopy(points)
        line = line_of(points)
        self.assertEqual(points, before)
        points.append(((9, 1), (9, 1)))
        points[0] = None
        self.assertEqual(line, tuple(points_of((0, 0), (2, 2), (4, 2))))


class BadLines(unittest.TestCase):
    def assert_bad(self, points):
        for kind in (list, tuple):
            with self.assertRaises(BadLine):
                line_of(kind(points))

    def test_no_point(self):
        self.assert_bad([])

    def test_first_point_is_not_nought_and_nought(self):
        for first in ((1, 0), (0, 1), (1, 1), (-1, 0), (0, -1), (-1, -1)):
            self.assert_bad(points_of(first))
            self.assert_bad(points_of(first, (5, 5)))
        for first in ((TINY, (0, 1)), ((0, 1), TINY), ((-1, 10 ** 59), (0, 1)), ((0, 1), (-1, 10 ** 59))):
            self.assert_bad([first, ((5, 1), (5, 1))])

    def test_an_x_is_not_greater(self):
        self.assert_bad(points_of((0, 0), (0, 0)))
        self.assert_bad(points_of((0, 0), (0, 1)))
        self.assert_bad(points_of((0, 0), (-1, 1)))
        self.assert_bad(points_of((0, 0), (2, 1), (2, 1)))
        self.assert_bad(points_of((0, 0), (2, 1), (2, 2)))
        self.assert_bad(points_of((0, 0), (2, 1), (1, 2), (3, 3)))
        self.assert_bad(points_of((0, 0), (1, 1), (2, 2), (2, 3)))
        self.assert_bad(points_of((0, 0), (2, 1), (2 - reckoned(TINY), 2)))

    def test_a_y_is_less(self):
        self.assert_bad(points_of((0, 0), (1, -1)))
        self.assert_bad(points_of((0, 0), (1, 2), (2, 1)))
        self.assert_bad(points_of((0, 0), (1, 2), (2, 1), (3, 3)))
        self.assert_bad(points_of((0, 0), (1, 2), (2, 2), (3, Fraction(3, 2))))
        self.assert_bad([((0, 1), (0, 1)), ((1, 1), (-1, 10 ** 59))])
        self.assert_bad(points_of((0, 0), (1, 2), (2, 2 - reckoned(TINY))))

    def test_a_falling_line_is_refused_though_it_is_straight(self):
        self.assert_bad(points_of((0, 0), (1, -1), (2, -2)))

    def test_what_is_refused_stays(self):
        points = points_of((0, 0), (1, 2), (2, 1))
        self.assert_bad(points)
        self.assertEqual(points, points_of((0, 0), (1, 2), (2, 1)))

    def test_a_refusal_is_a_catch_error(self):
        with self.assertRaises(CatchError):
            line_of([])


class LengthAndHeight(unittest.TestCase):
    def test_last_point(self):
        line = line_by((0, 0), (1, 0), (Fraction(5, 2), Fraction(7, 3)))
        self.assertEqual(length(line), (5, 2))
        self.assertEqual(height(line), (7, 3))
        self.assertEqual((length(ONE_POINT), height(ONE_POINT)), ((0, 1), (0, 1)))
        self.assertEqual(height(line_by((0, 0), (4, 0))), (0, 1))


class Value(Case):
    line = line_by((0, 0), (2, 0), (4, 3), (5, 3), (8, 4), (9, 4))

    def test_at_points(self):
        for x, y in self.line:
            self.assertEqual(value(self.line, x), y)

    def test_between_points(self):
        for x, y in ((1, 0), (3, Fraction(3, 2)), (Fraction(9, 2), 3), (6, Fraction(10, 3)), (Fraction(17, 2), 4)):
            self.assertEqual(value(self.line, told(x)), told(y))
        self.assertEqual(value(line_by((0, 0), (3, 1)), TINY), (1, 3 * 10 ** 59))

    def test_at_both_ends(self):
        self.assertEqual(value(self.line, (0, 1)), (0, 1))
        self.assertEqual(value(self.line, (9, 1)), (4, 1))
        self.assertEqual(value(ONE_POINT, (0, 1)), (0, 1))

    def test_outside(self):
        tiny = reckoned(TINY)
        for x in (-tiny, 9 + tiny, -1, 10, -10 ** 60 + 1, 10 ** 60 - 1):
            with self.assertRaises(Outside):
                value(self.line, told(x))
        for x in (TINY, (-1, 10 ** 59), (1, 1), (-1, 1)):
            with self.assertRaises(Outside):
                value(ONE_POINT, x)

    def test_drawn_lines(self):
        chance = random.Random(12)
        for _ in range(100):
            line = drawn_line(chance, most=12)
            for x in looked_at(line):
                self.assertEqual(value(line, told(x)), told(reckoned_value(line, x)))


class Stretch(Case):
    line = line_by((0, 0), (2, 0), (4, 3), (5, 3), (8, 4), (9, 4))

    def assert_stretch(self, line, y, least, greatest):
        answer = stretch(line, told(y))
        self.assertIs(type(answer), tuple)
        self.assertEqual(answer, (told(least), told(greatest)))

    def test_level_pieces(self):
        self.assert_stretch(self.line, 0, 0, 2)
        self.assert_stretch(self.line, 3, 4, 5)
        self.assert_stretch(self.line, 4, 8, 9)

    def test_between_points(self):
        self.assert_stretch(self.line, Fraction(3, 2), 3, 3)
        self.assert_stretch(self.line, Fraction(7, 2), Fraction(13, 2), Fraction(13, 2))
        tiny = reckoned(TINY)
        self.assert_stretch(self.line, tiny, 2 + tiny * Fraction(2, 3), 2 + tiny * Fraction(2, 3))
        self.assert_stretch(self.line, 4 - tiny, 8 - 3 * tiny, 8 - 3 * tiny)

    def test_at_points_without_level_pieces(self):
        line = line_by((0, 0), (1, 3), (4, 4), (5, 9))
        for x, y in ((0, 0), (1, 3), (4, 4), (5, 9)):
            self.assert_stretch(line, y, x, x)

    def test_a_level_line_and_one_point(self):
        self.assert_stretch(line_by((0, 0), (7, 0)), 0, 0, 7)
        self.assert_stretch(ONE_POINT, 0, 0, 0)

    def test_outside(self):
        tiny = reckoned(TINY)
        for y in (-tiny, 4 + tiny, -1, 5, 9, -10 ** 60 + 1, 10 ** 60 - 1):
            with self.assertRaises(Outside):
                stretch(self.line, told(y))
        for line in (ONE_POINT, line_by((0, 0), (7, 0))):
            for y in (tiny, -tiny, 1, -1, 7):
                with self.assertRaises(Outside):
                    stretch(line, told(y))

    def test_drawn_lines(self):
        chance = random.Random(13)
        for _ in range(100):
            line = drawn_line(chance, most=12)
            some = looked_at(line)
            for y in sorted({reckoned_value(line, x) for x in some}):
                least, greatest = stretch(line, told(y))
                self.assertEqual(value(line, least), told(y))
                self.assertEqual(value(line, greatest), told(y))
                there = [x for x in some if reckoned_value(line, x) == y]
                self.assertEqual((reckoned(least), reckoned(greatest)), (there[0], there[-1]))


class SumOf(Case):
    def assert_sum(self, one, two):
        line = sum_of(one, two)
        self.assert_line(line)
        self.assertEqual(length(line), length(one))
        for x in looked_at(one, two):
            self.assertEqual(reckoned_value(line, x), reckoned_value(one, x) + reckoned_value(two, x))
        self.assertEqual(sum_of(two, one), line)

    def test_by_hand(self):
        one = line_by((0, 0), (2, 4), (6, 4))
        two = line_by((0, 0), (3, 0), (6, 6))
        self.assertEqual(sum_of(one, two), line_by((0, 0), (2, 4), (3, 4), (6, 10)))

    def test_fewest_points(self):
        one = line_by((0, 0), (2, 2), (5, 2))
        two = line_by((0, 0), (2, 0), (5, 3))
        self.assertEqual(sum_of(one, two), tuple(points_of((0, 0), (5, 5))))
        level = line_by((0, 0), (5, 0))
        self.assertEqual(sum_of(level, level), level)
        self.assertEqual(sum_of(one, level), one)

    def test_one_point(self):
        self.assertEqual(sum_of(ONE_POINT, ONE_POINT), ONE_POINT)

    def test_drawn_lines(self):
        chance = random.Random(14)
        for _ in range(150):
            end = Fraction(chance.randrange(1, 30), chance.randrange(1, 7))
            self.assert_sum(drawn_line(chance, end), drawn_line(chance, end))

    def test_many_points(self):
        one = line_by(*[(k, k * k) for k in range(121)])
        two = line_by(*[(Fraction(3 * k, 2), k // 3) for k in range(81)])
        self.assertEqual(len(one), 121)
        self.assert_sum(one, two)

    def test_unlike_lengths(self):
        line = line_by((0, 0), (1, 2), (5, 3))
        near = line_by((0, 0), (5 + reckoned(TINY), 3))
        for other in (ONE_POINT, line_by((0, 0), (4, 3)), line_by((0, 0), (3, 5)), near):
            with self.assertRaises(Unlike):
                sum_of(line, other)
            with self.assertRaises(Unlike):
                sum_of(other, line)


class Behind(Case):
    def assert_behind(self, one, two):
        line = behind(one, two)
        self.assert_line(line)
        self.assertEqual(length(line), length(two))
        self.assertEqual(height(line), height(one))
        for x in looked_at(line, two):
            self.assertEqual(reckoned_value(line, x), reckoned_value(one, reckoned_value(two, x)))

    def test_by_hand(self):
        one = line_by((0, 0), (1, 0), (3, 4))
        two = line_by((0, 0), (2, 2), (4, 2), (5, 3))
        self.assertEqual(behind(one, two), line_by((0, 0), (1, 0), (2, 2), (4, 2), (5, 4)))

    def test_order_matters(self):
        one = line_by((0, 0), (2, 0), (4, 4))
        two = line_by((0, 0), (2, 4), (4, 4))
        self.assertEqual(behind(one, two), line_by((0, 0), (1, 0), (2, 4), (4, 4)))
        self.assertEqual(behind(two, one), line_by((0, 0), (2, 0), (3, 4), (4, 4)))

    def test_fewest_points(self):
        one = line_by((0, 0), (1, 2), (3, 3))
        two = line_by((0, 0), (2, 1), (3, 3))
        self.assertEqual(behind(one, two), tuple(points_of((0, 0), (3, 3))))
        level = line_by((0, 0), (3, 0))
        self.assertEqual(behind(level, two), level)

    def test_straight_ones_change_nothing(self):
        line = line_by((0, 0), (2, 1), (5, 1), (7, 6))
        self.assertEqual(behind(line, line_by((0, 0), (7, 7))), line)
        self.assertEqual(behind(line_by((0, 0), (6, 6)), line), line)

    def test_one_point(self):
        level = line_by((0, 0), (3, 0))
        self.assertEqual(behind(ONE_POINT, ONE_POINT), ONE_POINT)
        self.assertEqual(behind(ONE_POINT, level), level)

    def test_drawn_lines(self):
        chance = random.Random(15)
        for _ in range(150):
            meet = Fraction(chance.randrange(1, 30), chance.randrange(1, 7))
            self.assert_behind(drawn_line(chance, end=meet), drawn_line(chance, top=meet))

    def test_many_points(self):
        one = line_by(*[(Fraction(k, 2), k * k) for k in range(121)])
        two = line_by(*[(k, 2 * (k // 4)) for k in range(121)])
        self.assertEqual((length(one), height(two)), ((60, 1), (60, 1)))
        self.assert_behind(one, two)

    def test_unlike(self):
        one = line_by((0, 0), (3, 5))
        near = line_by((0, 0), (5, 3 + reckoned(TINY)))
        for two in (ONE_POINT, line_by((0, 0), (3, 5)), line_by((0, 0), (3, 0)), line_by((0, 0), (5, 4)), near):
            with self.assertRaises(Unlike):
                behind(one, two)
        with self.assertRaises(Unlike):
            behind(ONE_POINT, one)


class Turned(Case):
    def assert_turned(self, line):
        other = turned(line)
        self.assert_line(other)
        self.assertEqual((length(other), height(other)), (length(line), height(line)))
        self.assertEqual(turned(other), line)
        end, top = reckoned(length(line)), reckoned(height(line))
        for x in looked_at(line, other):
            self.assertEqual(reckoned_value(other, x), top - reckoned_value(line, end - x))

    def test_by_hand(self):
        line = line_by((0, 0), (2, 0), (4, 3), (5, 3))
        self.assertEqual(turned(line), tuple(points_of((0, 0), (1, 0), (3, 3), (5, 3))))
        line = line_by((0, 0), (1, 5), (4, 6))
        self.assertEqual(turned(line), tuple(points_of((0, 0), (3, 1), (4, 6))))

    def test_lines_that_turn_to_themselves(self):
        stepped = line_by((0, 0), (1, 2), (3, 2), (4, 4))
        for line in (ONE_POINT, line_by((0, 0), (7, 0)), line_by((0, 0), (7, 3)), stepped):
            self.assertEqual(turned(line), line)

    def test_drawn_lines(self):
        chance = random.Random(16)
        for _ in range(150):
            self.assert_turned(drawn_line(chance, most=12))


class Interface(Case):
    def test_names_and_arguments(self):
        self.assert_arguments(lines, {
            "line_of": ["points"], "length": ["line"], "height": ["line"], "value": ["line", "x"],
            "sum_of": ["one", "two"], "behind": ["one", "two"], "turned": ["line"], "stretch": ["line", "y"],
        })


if __name__ == "__main__":
    unittest.main()
