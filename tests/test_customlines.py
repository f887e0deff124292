import random
import unittest
from fractions import Fraction

from catchhall import customlines
from catchhall.customlines import catches_of, lines_of
from catchhall.customs import boat, claims_of, knot, shares
from catchhall.errors import NoBoat, Outside
from catchhall.lines import behind, sum_of
from catchhall.waylines import way_lines
from helping import (
    TINY, Case, all_told, claimed, drawn_custom, looked_at, points_of, reckoned, reckoned_points, reckoned_shares,
    reckoned_value, told,
)

ONE_POINT = (((0, 1), (0, 1)),)
SOME = knot("row", [], [boat(2), knot("back", [], [boat(3), boat(4)]), boat(0)])


def straight(claim):
    return tuple(points_of((0, 0), (claim, claim))) if claim else ONE_POINT


class LinesOf(Case):
    def test_by_hand(self):
        self.assertEqual(lines_of(SOME), [
            tuple(points_of((0, 0), (2, 2), (9, 2))), tuple(points_of((0, 0), (6, 0), (9, 3))),
            tuple(points_of((0, 0), (2, 0), (6, 4), (9, 4))), tuple(points_of((0, 0), (9, 0))),
        ])

    def test_a_boat_alone(self):
        for claim in (0, 1, 5, 10 ** 9):
            self.assertEqual(lines_of(boat(claim)), [straight(claim)])

    def test_no_claims(self):
        custom = knot("half", [], [boat(0), knot("even", [1, 2], [boat(0), boat(0)])])
        self.assertEqual(lines_of(custom), [ONE_POINT] * 3)

    def test_values_are_the_shares_at_all_joints_and_between(self):
        chance = random.Random(61)
        for _ in range(80):
            custom = drawn_custom(chance, most=chance.choice((3, 30, 10 ** 9)))
            some = lines_of(custom)
            self.assertIs(type(some), list)
            for x in looked_at(*some):
                amounts = all_told([reckoned_value(line, x) for line in some])
                self.assertEqual(amounts, shares(custom, told(x)))
                self.assertEqual(amounts, all_told(reckoned_shares(custom, x)))

    def test_values_between_joints_that_the_lines_do_not_show(self):
        chance = random.Random(62)
        for _ in range(80):
            custom = drawn_custom(chance)
            some = lines_of(custom)
            for _ in range(6):
                x = Fraction(claimed(custom) * chance.randrange(98), 97)
                self.assertEqual([reckoned_value(line, x) for line in some], reckoned_shares(custom, x))

    def test_form_lengths_heights_and_sum(self):
        chance = random.Random(63)
        for _ in range(100):
            custom = drawn_custom(chance, most=chance.choice((3, 30, 10 ** 9)))
            some = lines_of(custom)
            self.assertEqual(len(some), len(claims_of(custom)))
            for line, claim in zip(some, claims_of(custom)):
                self.assert_line(line)
                self.assertEqual(reckoned_points(line)[-1], (claimed(custom), claim))
            whole = some[0]
            for line in some[1:]:
                whole = sum_of(whole, line)
            self.assertEqual(whole, straight(claimed(custom)))

    def test_a_kids_lines_behind_the_ways_line(self):
        chance = random.Random(64)
        for _ in range(60):
            custom = drawn_custom(chance)
            if custom[0] != "boat":
                by_way = way_lines(custom[0], custom[1], [claimed(kid) for kid in custom[2]])
                some = [behind(line, way) for kid, way in zip(custom[2], by_way) for line in lines_of(kid)]
                self.assertEqual(lines_of(custom), some)

    def test_the_deepest_customs_with_the_greatest_weights(self):
        chance = random.Random(65)
        custom = knot("even", [999983, 999979], [boat(10 ** 9), boat(10 ** 9 - 1)])
        for way in ("lack", "even", "half", "lack", "even", "lack"):
            weights = [chance.randrange(10 ** 5, 10 ** 6) for _ in range(2)] if way != "half" else []
            custom = knot(way, weights, [custom, boat(chance.randrange(10 ** 9))])
        some = lines_of(custom)
        for x in looked_at(*some):
            self.assertEqual([reckoned_value(line, x) for line in some], reckoned_shares(custom, x))

    def test_what_is_told_is_the_askers_own(self):
        some = lines_of(SOME)
        kept = list(some)
        some.clear()
        self.assertEqual(lines_of(SOME), kept)


class CatchesOf(Case):
    def assert_catches(self, custom, number, amount, least, greatest):
        answer = catches_of(custom, number, told(amount))
        self.assertIs(type(answer), tuple)
        self.assertEqual(answer, (told(least), told(greatest)))

    def test_level_pieces_nought_and_the_claim(self):
        self.assert_catches(SOME, 0, 0, 0, 0)
        self.assert_catches(SOME, 0, 2, 2, 9)
        self.assert_catches(SOME, 1, 0, 0, 6)
        self.assert_catches(SOME, 1, 3, 9, 9)
        self.assert_catches(SOME, 2, 0, 0, 2)
        self.assert_catches(SOME, 2, 4, 6, 9)
        self.assert_catches(SOME, 3, 0, 0, 9)
        half = knot("half", [], [boat(2), boat(4)])
        self.assert_catches(half, 0, 1, 2, 4)

    def test_between(self):
        self.assert_catches(SOME, 0, 1, 1, 1)
        self.assert_catches(SOME, 1, Fraction(1, 2), Fraction(13, 2), Fraction(13, 2))
        self.assert_catches(SOME, 2, Fraction(7, 3), Fraction(13, 3), Fraction(13, 3))

    def test_a_boat_alone(self):
        for amount in (0, Fraction(1, 3), 4, 5):
            self.assert_catches(boat(5), 0, amount, amount, amount)
        self.assert_catches(boat(0), 0, 0, 0, 0)
        self.assert_catches(knot("part", [], [boat(0), boat(0)]), 1, 0, 0, 0)

    def test_drawn_customs(self):
        chance = random.Random(66)
        bit = Fraction(1, 10 ** 30)
        for _ in range(60):
            custom = drawn_custom(chance)
            whole = claimed(custom)
            for number, claim in enumerate(claims_of(custom)):
                for amount in {Fraction(0), Fraction(claim), Fraction(claim, 2), Fraction(claim, 3)}:
                    least, greatest = [reckoned(each) for each in catches_of(custom, number, told(amount))]
                    self.assertEqual(reckoned_shares(custom, least)[number], amount)
                    self.assertEqual(reckoned_shares(custom, greatest)[number], amount)
                    if least > 0:
                        self.assertLess(reckoned_shares(custom, max(least - bit, 0))[number], amount)
                    if greatest < whole:
                        self.assertGreater(reckoned_shares(custom, min(greatest + bit, whole))[number], amount)

    def test_no_boat_then_outside(self):
        bit = reckoned(TINY)
        for number in (-1, -2, -4, 4, 5, 10 ** 30, -10 ** 30):
            for amount in (0, -1, bit, 10 ** 40):
                self.assert_refused(NoBoat, catches_of, SOME, number, told(amount))
        for number, claim in enumerate(claims_of(SOME)):
            for amount in (-bit, -1, claim + bit, claim + 1, 9, 10 ** 40, -10 ** 40):
                self.assert_refused(Outside, catches_of, SOME, number, told(amount))
        for number in (-1, 1):
            self.assert_refused(NoBoat, catches_of, boat(5), number, (9, 1))
        self.assert_refused(Outside, catches_of, boat(5), 0, (6, 1))


class Interface(Case):
    def test_names_and_arguments(self):
        self.assert_arguments(customlines, {"lines_of": ["custom"], "catches_of": ["custom", "boat", "amount"]})


if __name__ == "__main__":
    unittest.main()
