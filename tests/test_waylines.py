import copy
import random
import unittest
from fractions import Fraction

from catchhall import waylines
from catchhall.errors import BadClaim, BadWay, BadWeights
from catchhall.waylines import way_lines
from catchhall.ways import contrary_way, dealt
from helping import (
    NO_WAYS, WAYS, WEIGHTED, Case, drawn_claims, drawn_weights, looked_at, points_of, reckoned_dealt,
    reckoned_points, reckoned_turned, reckoned_value, told,
)

ONE_POINT = (((0, 1), (0, 1)),)


def drawn_cases(seed, many, most=6):
    chance = random.Random(seed)
    for _ in range(many):
        way = chance.choice(WAYS)
        claims = drawn_claims(chance, chance.randrange(1, most + 1))
        yield way, drawn_weights(chance, way, len(claims)), claims


class ByHand(Case):
    def assert_lines(self, way, weights, claims, *some):
        answer = way_lines(way, weights, claims)
        self.assertIs(type(answer), list)
        self.assertEqual(answer, [tuple(points_of(*pairs)) for pairs in some])

    def test_row_and_back(self):
        self.assert_lines("row", [], [2, 3], [(0, 0), (2, 2), (5, 2)], [(0, 0), (2, 0), (5, 3)])
        self.assert_lines("back", [], [2, 3], [(0, 0), (3, 0), (5, 2)], [(0, 0), (3, 3), (5, 3)])
        self.assert_lines("row", [], [2, 0], [(0, 0), (2, 2)], [(0, 0), (2, 0)])

    def test_even_and_lack(self):
        self.assert_lines("even", [1, 1], [2, 3], [(0, 0), (4, 2), (5, 2)], [(0, 0), (4, 2), (5, 3)])
        self.assert_lines("lack", [1, 1], [2, 3], [(0, 0), (1, 0), (5, 2)], [(0, 0), (1, 1), (5, 3)])
        self.assert_lines("even", [2, 3], [2, 3], [(0, 0), (5, 2)], [(0, 0), (5, 3)])
        self.assert_lines(
            "even", [3, 1], [2, 3], [(0, 0), (Fraction(8, 3), 2), (5, 2)],
            [(0, 0), (Fraction(8, 3), Fraction(2, 3)), (5, 3)],
        )

    def test_part(self):
        self.assert_lines("part", [], [2, 0, 3], [(0, 0), (5, 2)], [(0, 0), (5, 0)], [(0, 0), (5, 3)])

    def test_half(self):
        self.assert_lines(
            "half", [], [2, 4], [(0, 0), (2, 1), (4, 1), (6, 2)], [(0, 0), (2, 1), (4, 3), (6, 4)],
        )
        self.assert_lines("half", [], [3, 3], [(0, 0), (6, 3)], [(0, 0), (6, 3)])

    def test_all_claims_nought(self):
        for way in WAYS:
            for many in (1, 2, 4):
                weights = [3] * many if way in WEIGHTED else []
                self.assertEqual(way_lines(way, weights, [0] * many), [ONE_POINT] * many)

    def test_one_claim_goes_straight(self):
        for way in WAYS:
            self.assert_lines(way, [4] if way in WEIGHTED else [], [7], [(0, 0), (7, 7)])


class Lines(Case):
    def test_lengths_heights_and_fewest_points(self):
        for way, weights, claims in drawn_cases(41, 300, most=9):
            some = way_lines(way, weights, claims)
            self.assertIs(type(some), list)
            self.assertEqual(len(some), len(claims))
            for line, claim in zip(some, claims):
                self.assert_line(line)
                self.assertEqual(reckoned_points(line)[-1], (sum(claims), claim))

    def test_values_at_joints_and_between(self):
        for way, weights, claims in drawn_cases(42, 200):
            some = way_lines(way, weights, claims)
            for x in looked_at(*some):
                amounts = [told(reckoned_value(line, x)) for line in some]
                self.assertEqual(amounts, dealt(way, weights, claims, told(x)))
                self.assertEqual(amounts, [told(each) for each in reckoned_dealt(way, weights, claims, x)])

    def test_values_between_joints_that_the_lines_do_not_show(self):
        chance = random.Random(43)
        for way, weights, claims in drawn_cases(44, 150):
            some = way_lines(way, weights, claims)
            for _ in range(8):
                x = Fraction(sum(claims) * chance.randrange(98), 97)
                amounts = [told(reckoned_value(line, x)) for line in some]
                self.assertEqual(amounts, [told(each) for each in reckoned_dealt(way, weights, claims, x)])

    def test_by_the_contrary_way_each_line_turned_about(self):
        for way, weights, claims in drawn_cases(45, 200):
            other = way_lines(contrary_way(way), weights, claims)
            self.assertEqual(other, [reckoned_turned(line) for line in way_lines(way, weights, claims)])

    def test_lists_and_tuples_which_stay_as_they_are(self):
        for way, weights, claims in drawn_cases(46, 60):
            given = (list(weights), list(claims))
            before = copy.deepcopy(given)
            answer = way_lines(way, given[0], given[1])
            self.assertEqual(given, before)
            self.assertEqual(way_lines(way, tuple(weights), tuple(claims)), answer)
            kept = list(answer)
            answer.clear()
            self.assertEqual(way_lines(way, weights, claims), kept)


class Refused(Case):
    def test_as_looked_refuses(self):
        for way in NO_WAYS:
            self.assert_refused(BadWay, way_lines, way, [0], [-1])
        for way in WAYS:
            self.assert_refused(BadClaim, way_lines, way, [], [])
            self.assert_refused(BadClaim, way_lines, way, [0, 0, 0], [1, -1])
        for way in WEIGHTED:
            for weights in ([], [1], [1, 1, 1], [1, 0], [-1, 1], [1, 10 ** 6 + 1]):
                self.assert_refused(BadWeights, way_lines, way, weights, [1, 2])
        for way in ("row", "back", "part", "half"):
            for weights in ([1], [1, 1], [0, 0]):
                self.assert_refused(BadWeights, way_lines, way, weights, [1, 2])


class Interface(Case):
    def test_names_and_arguments(self):
        self.assert_arguments(waylines, {"way_lines": ["way", "weights", "claims"]})


if __name__ == "__main__":
    unittest.main()
