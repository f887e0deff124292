import copy
import random
import unittest
from fractions import Fraction

from catchhall import customs
from catchhall.customs import boat, claim_of, claims_of, deep_of, kid_at, knot, shares
from catchhall.errors import BadClaim, BadWay, BadWeights, Outside, TooMany
from helping import (
    NO_WAYS, TINY, WAYS, WEIGHTED, Case, all_reckoned, all_told, catches_for, claimed, drawn_custom, reckoned,
    reckoned_shares, told,
)

SOME = knot("even", [2, 1], [boat(5), knot("row", [], [boat(3), knot("half", [], [boat(0)]), boat(7)])])


def ones_for(way, many):
    return [1] * many if way in WEIGHTED else []


def row_of(deep):
    """A custom so deep, of one boat."""
    custom = boat(1)
    for _ in range(deep - 1):
        custom = knot("row", [], [custom])
    return custom


class Boat(Case):
    def test_claims(self):
        for claim in (0, 1, 12, 10 ** 9 - 1, 10 ** 9):
            self.assertEqual(boat(claim), ("boat", claim))
            self.assertIs(type(boat(claim)), tuple)

    def test_bad_claims(self):
        for claim in (-1, -10 ** 9, 10 ** 9 + 1, 10 ** 12, 10 ** 30, -10 ** 30):
            self.assert_refused(BadClaim, boat, claim)


class Knot(Case):
    def test_each_way(self):
        for way in WAYS:
            kids = [boat(5), boat(0), boat(3)]
            weights = [3, 1, 10 ** 6] if way in WEIGHTED else []
            custom = knot(way, weights, kids)
            self.assertEqual(custom, (way, tuple(weights), tuple(kids)))
            self.assertEqual(knot(way, tuple(weights), tuple(kids)), custom)
            self.assertEqual([type(part) for part in custom], [str, tuple, tuple])
            self.assertEqual(weights, [3, 1, 10 ** 6] if way in WEIGHTED else [])
            self.assertEqual(kids, [boat(5), boat(0), boat(3)])

    def test_what_is_handed_in_is_not_kept(self):
        kids = [boat(5), boat(3)]
        weights = [1, 2]
        custom = knot("lack", weights, kids)
        kids.append(boat(9))
        weights[0] = 77
        self.assertEqual(custom, ("lack", (1, 2), (("boat", 5), ("boat", 3))))

    def test_knots_in_knots(self):
        self.assertEqual(SOME, (
            "even", (2, 1), (
                ("boat", 5),
                ("row", (), (("boat", 3), ("half", (), (("boat", 0),)), ("boat", 7))),
            ),
        ))

    def test_words_that_are_no_way(self):
        for way in NO_WAYS:
            self.assert_refused(BadWay, knot, way, [], [boat(1)])

    def test_bad_weights(self):
        kids = [boat(1), boat(2)]
        for way in WEIGHTED:
            for weights in ([], [1], [1, 1, 1], [0, 1], [1, 0], [-1, 1], [1, 10 ** 6 + 1], [10 ** 30, 1]):
                self.assert_refused(BadWeights, knot, way, weights, kids)
                self.assert_refused(BadWeights, knot, way, tuple(weights), tuple(kids))
            self.assert_refused(BadWeights, knot, way, [1], [])
        for way in ("row", "back", "part", "half"):
            for weights in ([1], [1, 1], [1, 1, 1], [0]):
                self.assert_refused(BadWeights, knot, way, weights, kids)
            self.assert_refused(BadWeights, knot, way, [1], [])

    def test_no_kid(self):
        for way in WAYS:
            self.assert_refused(TooMany, knot, way, [], [])
            self.assert_refused(TooMany, knot, way, (), ())

    def test_twelve_and_thirteen_kids(self):
        for way in WAYS:
            twelve = [boat(k) for k in range(12)]
            self.assertEqual(len(knot(way, ones_for(way, 12), twelve)[2]), 12)
            self.assert_refused(TooMany, knot, way, ones_for(way, 13), twelve + [boat(1)])

    def test_twelve_and_thirteen_boats(self):
        six = knot("part", [], [boat(k) for k in range(6)])
        seven = knot("back", [], [boat(k) for k in range(7)])
        for way in WAYS:
            self.assertEqual(len(claims_of(knot(way, ones_for(way, 2), [six, six]))), 12)
            self.assert_refused(TooMany, knot, way, ones_for(way, 2), [six, seven])
            self.assert_refused(TooMany, knot, way, ones_for(way, 3), [six, boat(0), six])
            lone = knot(way, ones_for(way, 1), [knot("row", [], [boat(0)] * 12)])
            self.assertEqual(len(claims_of(lone)), 12)
            self.assert_refused(TooMany, knot, "row", [], [boat(0), lone])

    def test_eight_and_nine_deep(self):
        for way in WAYS:
            self.assertEqual(deep_of(knot(way, ones_for(way, 1), [row_of(7)])), 8)
            self.assert_refused(TooMany, knot, way, ones_for(way, 1), [row_of(8)])
            self.assertEqual(deep_of(knot(way, ones_for(way, 3), [boat(1), row_of(7), boat(1)])), 8)
            self.assert_refused(TooMany, knot, way, ones_for(way, 3), [boat(1), boat(1), row_of(8)])

    def test_the_one_told_first(self):
        many = [boat(1)] * 13
        for way in NO_WAYS:
            self.assert_refused(BadWay, knot, way, [0], [])
            self.assert_refused(BadWay, knot, way, [], many)
        for way in WEIGHTED:
            self.assert_refused(BadWeights, knot, way, [1] * 12, many)
            self.assert_refused(BadWeights, knot, way, [0] * 13, many)
            self.assert_refused(BadWeights, knot, way, [], [row_of(8)])
        for way in ("row", "back", "part", "half"):
            self.assert_refused(BadWeights, knot, way, [1], many)
            self.assert_refused(BadWeights, knot, way, [1], [row_of(8)])


class Asked(Case):
    def test_one_boat(self):
        for claim in (0, 5, 10 ** 9):
            self.assertEqual(claims_of(boat(claim)), [claim])
            self.assertEqual(claim_of(boat(claim)), claim)
            self.assertEqual(deep_of(boat(claim)), 1)
            self.assertEqual(kid_at(boat(claim), []), boat(claim))

    def test_many_knots(self):
        self.assertEqual(claims_of(SOME), [5, 3, 0, 7])
        self.assertEqual(claim_of(SOME), 15)
        self.assertEqual(deep_of(SOME), 4)
        for deep in range(1, 9):
            self.assertEqual(deep_of(row_of(deep)), deep)
            self.assertEqual(claims_of(row_of(deep)), [1])

    def test_drawn_customs(self):
        chance = random.Random(51)
        for _ in range(200):
            custom = drawn_custom(chance)
            before = copy.deepcopy(custom)
            self.assertIs(type(claims_of(custom)), list)
            self.assertEqual(claim_of(custom), claimed(custom))
            self.assertEqual(sum(claims_of(custom)), claimed(custom))
            if custom[0] == "boat":
                self.assertEqual(deep_of(custom), 1)
            else:
                self.assertEqual(deep_of(custom), 1 + max(deep_of(kid) for kid in custom[2]))
                pieces = [claims_of(kid) for kid in custom[2]]
                self.assertEqual(claims_of(custom), [claim for piece in pieces for claim in piece])
            self.assertEqual(custom, before)

    def test_the_told_claims_are_the_askers_own(self):
        claims = claims_of(SOME)
        claims[0] = 99
        claims.append(1)
        self.assertEqual(claims_of(SOME), [5, 3, 0, 7])


class KidAt(Case):
    def test_paths(self):
        paths = (
            ((), SOME), ((0,), boat(5)), ((1,), SOME[2][1]), ((1, 0), boat(3)), ((1, 1), SOME[2][1][2][1]),
            ((1, 1, 0), boat(0)), ((1, 2), boat(7)),
        )
        for path, kid in paths:
            before = list(path)
            self.assertEqual(kid_at(SOME, path), kid)
            self.assertEqual(kid_at(SOME, before), kid)
            self.assertEqual(before, list(path))

    def test_outside(self):
        paths = (
            (-1,), (2,), (-2,), (10 ** 30,), (-10 ** 30,), (1, -1), (1, 3), (1, 1, 1), (1, 1, -1), (-1, 0), (2, 0),
            (0, 0), (0, -1), (0, 1), (1, 0, 0), (1, 1, 0, 0), (1, 2, 0), (0, 0, 0, 0, 0, 0, 0, 0, 0),
        )
        for path in paths:
            self.assert_refused(Outside, kid_at, SOME, path)
            self.assert_refused(Outside, kid_at, SOME, list(path))
        for path in ([0], (0,), [-1], [0, 0]):
            self.assert_refused(Outside, kid_at, boat(5), path)


class Shares(Case):
    def test_by_hand(self):
        self.assertEqual(shares(SOME, (6, 1)), all_told([4, 2, 0, 0]))
        self.assertEqual(shares(SOME, (9, 1)), all_told([5, 3, 0, 1]))
        half = knot("half", [], [boat(100), knot("lack", [1, 2], [boat(100), boat(100)]), boat(300)])
        self.assertEqual(shares(half, (200, 1)), all_told([50, Fraction(175, 3), Fraction(50, 3), 75]))
        self.assertEqual(shares(half, (400, 1)), all_told([50, 75, 50, 225]))

    def test_a_boat_gets_what_it_gets(self):
        for catch in (0, Fraction(1, 3), 1, Fraction(9, 2), 5):
            self.assertEqual(shares(boat(5), told(catch)), [told(catch)])
        self.assertEqual(shares(boat(0), (0, 1)), [(0, 1)])

    def test_drawn_customs(self):
        chance = random.Random(52)
        for _ in range(150):
            custom = drawn_custom(chance, most=chance.choice((3, 30, 10 ** 9)))
            claims = claims_of(custom)
            before = [Fraction(0)] * len(claims)
            for catch in catches_for(custom):
                answer = shares(custom, told(catch))
                self.assert_fractions(answer)
                self.assertEqual(answer, all_told(reckoned_shares(custom, catch)))
                now = all_reckoned(answer)
                self.assertEqual(sum(now), catch)
                for share, ahead, claim in zip(now, before, claims):
                    self.assertTrue(0 <= ahead <= share <= claim)
                before = now
            self.assertEqual(shares(custom, (0, 1)), [(0, 1)] * len(claims))
            self.assertEqual(shares(custom, told(claimed(custom))), all_told(claims))

    def test_ways_in_ways(self):
        for one in WAYS:
            for two in WAYS:
                inner = knot(two, [2, 3] if two in WEIGHTED else [], [boat(9), boat(4)])
                custom = knot(one, [5, 1, 2] if one in WEIGHTED else [], [boat(6), inner, inner])
                for catch in catches_for(custom):
                    self.assertEqual(shares(custom, told(catch)), all_told(reckoned_shares(custom, catch)))

    def test_outside(self):
        bit = reckoned(TINY)
        chance = random.Random(53)
        some = [boat(0), boat(5), SOME, knot("part", [], [boat(0), boat(0)])]
        for custom in some + [drawn_custom(chance) for _ in range(30)]:
            for catch in (-bit, -1, -10 ** 40, claimed(custom) + bit, claimed(custom) + 1, 10 ** 40):
                self.assert_refused(Outside, shares, custom, told(catch))

    def test_what_is_told_is_the_askers_own(self):
        answer = shares(SOME, (6, 1))
        answer.pop()
        answer[0] = None
        self.assertEqual(shares(SOME, (6, 1)), all_told([4, 2, 0, 0]))


class Interface(Case):
    def test_names_and_arguments(self):
        self.assert_arguments(customs, {
            "boat": ["claim"], "knot": ["way", "weights", "kids"], "claims_of": ["custom"], "claim_of": ["custom"],
            "deep_of": ["custom"], "kid_at": ["custom", "path"], "shares": ["custom", "catch"],
        })


if __name__ == "__main__":
    unittest.main()
