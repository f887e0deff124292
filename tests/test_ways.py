import copy
import random
import unittest
from fractions import Fraction

from catchhall import ways
from catchhall.errors import BadClaim, BadWay, BadWeights, CatchError, Outside
from catchhall.ways import contrary_way, dealt, looked
from helping import (
    NO_WAYS, TINY, WAYS, WEIGHTED, Case, all_reckoned, all_told, drawn_claims, drawn_weights, reckoned,
    reckoned_dealt, told,
)

CONTRARY = {"row": "back", "back": "row", "even": "lack", "lack": "even", "part": "part", "half": "half"}


def ones_for(way, many):
    return [1] * many if way in WEIGHTED else []


def catches_among(chance, weights, claims):
    """Nought, the sum, its half and a bit beside it, whole numbers, parts, and those at which some claim is just full."""
    whole = sum(claims)
    bit = reckoned(TINY)
    some = [Fraction(0), Fraction(whole), Fraction(whole, 2), Fraction(whole, 2) - bit, Fraction(whole, 2) + bit]
    some += [bit, whole - bit, Fraction(chance.randrange(whole + 1)), Fraction(whole * chance.randrange(1, 97), 97)]
    for k in range(len(claims)):
        some.append(Fraction(sum(claims[:k])))
        level = Fraction(claims[k], (weights or [1] * len(claims))[k])
        full = sum(min(level * weight, claim) for weight, claim in zip(weights or [1] * len(claims), claims))
        # Full by even, by lack, and full or half full by half.
        some += [full, whole - full, full / 2, whole - full / 2]
    return sorted({catch for catch in some if 0 <= catch <= whole})


def drawn_cases(seed, many, most=6):
    chance = random.Random(seed)
    for _ in range(many):
        way = chance.choice(WAYS)
        claims = drawn_claims(chance, chance.randrange(1, most + 1))
        weights = drawn_weights(chance, way, len(claims))
        yield way, weights, claims, catches_among(chance, weights, claims)


class Looked(Case):
    def both(self, refusal, way, weights, claims):
        """Refused by looked and dealt, for lists and tuples, whatever the catch."""
        for kind in (list, tuple):
            self.assert_refused(refusal, looked, way, kind(weights), kind(claims))
            for catch in ((0, 1), (-1, 1), (10 ** 40, 1)):
                self.assert_refused(refusal, dealt, way, kind(weights), kind(claims), catch)

    def test_nothing_is_told(self):
        for way in WAYS:
            for claims in ([0], [5], [0, 0], [3, 0, 10 ** 30]):
                for weight in (1, 2, 10 ** 6):
                    weights = [weight] * len(claims) if way in WEIGHTED else []
                    self.assertIsNone(looked(way, weights, claims))
                    self.assertIsNone(looked(way, tuple(weights), tuple(claims)))

    def test_words_that_are_no_way(self):
        for way in NO_WAYS:
            self.both(BadWay, way, [], [1, 2])

    def test_no_claim_and_claims_below_nought(self):
        for way in WAYS:
            self.both(BadClaim, way, [], [])
            for claims in ([-1], [3, -1], [-1, 3], [0, 0, -10 ** 30], [5, -1, 5]):
                self.both(BadClaim, way, ones_for(way, len(claims)), claims)

    def test_weights_too_many_or_too_few(self):
        for way in WEIGHTED:
            for weights, claims in (([], [3]), ([1], [3, 4]), ([1, 1], [3]), ([1, 1, 1], [3, 4]), ([], [0, 0])):
                self.both(BadWeights, way, weights, claims)

    def test_weights_that_are_none(self):
        for way in WEIGHTED:
            for weight in (0, -1, 10 ** 6 + 1, -10 ** 30, 10 ** 30):
                for weights in ([weight, 1, 1], [1, weight, 1], [1, 1, weight]):
                    self.both(BadWeights, way, weights, [1, 2, 3])

    def test_weights_of_a_way_that_has_none(self):
        for way in WAYS:
            if way not in WEIGHTED:
                for weights in ([1], [1, 1], [1, 1, 1], [0, 0], [-1]):
                    self.both(BadWeights, way, weights, [3, 4])

    def test_the_one_told_first(self):
        for way in NO_WAYS:
            self.both(BadWay, way, [], [])
            self.both(BadWay, way, [0, -1], [3, -4])
            self.both(BadWay, way, [7], [3, 4])
        for way in WAYS:
            self.both(BadClaim, way, [1], [])
            self.both(BadClaim, way, [0], [-1])
            self.both(BadClaim, way, [1, 2, 3, 0], [3, -1])
        for way in WEIGHTED:
            self.both(BadWeights, way, [0], [3, 4])
        self.both(BadWeights, "half", [0], [3, 4])

    def test_a_refusal_is_a_catch_error(self):
        with self.assertRaises(CatchError):
            looked("none", [], [1])


class Contrary(Case):
    def test_each_way(self):
        for way in WAYS:
            self.assertEqual(contrary_way(way), CONTRARY[way])
            self.assertEqual(contrary_way(contrary_way(way)), way)

    def test_words_that_are_no_way(self):
        for way in NO_WAYS:
            self.assert_refused(BadWay, contrary_way, way)


class ByHand(Case):
    def assert_dealt(self, way, weights, claims, catch, amounts):
        answer = dealt(way, weights, claims, told(catch))
        self.assert_fractions(answer)
        self.assertEqual(answer, all_told(amounts), (way, weights, claims, catch))

    def test_row_and_back(self):
        self.assert_dealt("row", [], [5, 0, 3, 4], 6, [5, 0, 1, 0])
        self.assert_dealt("back", [], [5, 0, 3, 4], 6, [0, 0, 2, 4])
        self.assert_dealt("row", [], [5, 3], Fraction(11, 2), [5, Fraction(1, 2)])
        self.assert_dealt("back", [], [5, 3], Fraction(11, 2), [Fraction(5, 2), 3])

    def test_even(self):
        self.assert_dealt("even", [1, 1, 1], [1, 5, 9], 7, [1, 3, 3])
        self.assert_dealt("even", [2, 1], [5, 3], 4, [Fraction(8, 3), Fraction(4, 3)])
        self.assert_dealt("even", [2, 1], [5, 3], 7, [Fraction(14, 3), Fraction(7, 3)])
        self.assert_dealt("even", [10, 1], [5, 3], 7, [5, 2])
        self.assert_dealt("even", [10 ** 6, 1], [10 ** 30, 10 ** 30], 10 ** 6 + 1, [10 ** 6, 1])

    def test_lack(self):
        self.assert_dealt("lack", [1, 1, 1], [1, 5, 9], 8, [0, 2, 6])
        self.assert_dealt("lack", [2, 1], [5, 3], 4, [Fraction(7, 3), Fraction(5, 3)])
        self.assert_dealt("lack", [10, 1], [5, 3], 1, [0, 1])

    def test_part(self):
        self.assert_dealt("part", [], [2, 0, 4], 3, [1, 0, 2])
        self.assert_dealt("part", [], [2, 5], 1, [Fraction(2, 7), Fraction(5, 7)])

    def test_half(self):
        third = Fraction(100, 3)
        self.assert_dealt("half", [], [100, 200, 300], 100, [third, third, third])
        self.assert_dealt("half", [], [100, 200, 300], 200, [50, 75, 75])
        self.assert_dealt("half", [], [100, 200, 300], 300, [50, 100, 150])
        self.assert_dealt("half", [], [100, 200, 300], 400, [50, 125, 225])
        self.assert_dealt("half", [], [100, 200, 300], 500, [100 - third, 200 - third, 300 - third])
        self.assert_dealt("half", [], [1], Fraction(1, 2), [Fraction(1, 2)])
        self.assert_dealt("half", [], [1], Fraction(2, 3), [Fraction(2, 3)])

    def test_all_claims_nought(self):
        for way in WAYS:
            for many in (1, 2, 5):
                self.assert_dealt(way, ones_for(way, many), [0] * many, 0, [0] * many)

    def test_one_claim_gets_what_comes(self):
        for way in WAYS:
            for weight in (1, 7, 10 ** 6):
                weights = [weight] if way in WEIGHTED else []
                for catch in (0, 1, Fraction(7, 2), Fraction(19, 5), Fraction(22, 3), 8):
                    self.assert_dealt(way, weights, [8], catch, [catch])


class Dealt(Case):
    def test_as_reckoned_by_the_words(self):
        for way, weights, claims, catches in drawn_cases(21, 400):
            for catch in catches:
                answer = dealt(way, weights, claims, told(catch))
                self.assert_fractions(answer)
                self.assertEqual(answer, all_told(reckoned_dealt(way, weights, claims, catch)))

    def test_many_claims(self):
        for way, weights, claims, catches in drawn_cases(22, 20, most=40):
            for catch in catches[::5]:
                answer = dealt(way, weights, claims, told(catch))
                self.assertEqual(answer, all_told(reckoned_dealt(way, weights, claims, catch)))

    def test_sums_and_bounds(self):
        for way, weights, claims, catches in drawn_cases(23, 200):
            for catch in catches:
                amounts = all_reckoned(dealt(way, weights, claims, told(catch)))
                self.assertEqual(len(amounts), len(claims))
                self.assertEqual(sum(amounts), catch)
                for amount, claim in zip(amounts, claims):
                    self.assertTrue(0 <= amount <= claim)

    def assert_one_level(self, weights, claims, amounts):
        """One level times each weight is the amount, or no less where the whole claim is got."""
        for weight, claim, amount in zip(weights, claims, amounts):
            for other, most, more in zip(weights, claims, amounts):
                if amount < claim:
                    self.assertTrue(more == amount / weight * other or more == most < amount / weight * other)

    def test_the_level_of_even_lack_and_half(self):
        for way, weights, claims, catches in drawn_cases(24, 300):
            for catch in catches:
                amounts = all_reckoned(dealt(way, weights, claims, told(catch)))
                lacks = [claim - amount for claim, amount in zip(claims, amounts)]
                halves = [Fraction(claim, 2) for claim in claims]
                if way == "even":
                    self.assert_one_level(weights, claims, amounts)
                if way == "lack":
                    self.assert_one_level(weights, claims, lacks)
                if way == "half":
                    little = catch * 2 <= sum(claims)
                    self.assert_one_level([1] * len(claims), halves, amounts if little else lacks)

    def test_each_two_alone(self):
        for way, weights, claims, catches in drawn_cases(25, 120):
            for catch in catches[::2]:
                amounts = dealt(way, weights, claims, told(catch))
                for one in range(len(claims)):
                    for other in range(one + 1, len(claims)):
                        two = [amounts[one], amounts[other]]
                        own = [weights[one], weights[other]] if weights else []
                        both = told(sum(all_reckoned(two)))
                        self.assertEqual(dealt(way, own, [claims[one], claims[other]], both), two)

    def test_other_amounts_are_not_right_for_each_two(self):
        chance = random.Random(26)
        for way, weights, claims, catches in drawn_cases(27, 120):
            amounts = all_reckoned(dealt(way, weights, claims, told(chance.choice(catches))))
            givers = [k for k in range(len(claims)) if amounts[k] > 0]
            takers = [k for k in range(len(claims)) if amounts[k] < claims[k]]
            pairs = [(k, j) for k in givers for j in takers if k != j]
            if not pairs:
                continue
            giver, taker = chance.choice(pairs)
            moved = min(amounts[giver], claims[taker] - amounts[taker]) / chance.choice((1, 2, 1000))
            amounts[giver] -= moved
            amounts[taker] += moved
            wrong = False
            for one in range(len(claims)):
                for other in range(one + 1, len(claims)):
                    own = [weights[one], weights[other]] if weights else []
                    both = told(amounts[one] + amounts[other])
                    right = dealt(way, own, [claims[one], claims[other]], both)
                    wrong = wrong or right != all_told([amounts[one], amounts[other]])
            self.assertTrue(wrong)

    def test_never_less_at_a_greater_catch(self):
        for way, weights, claims, catches in drawn_cases(28, 150):
            before = [Fraction(0)] * len(claims)
            for catch in catches:
                amounts = all_reckoned(dealt(way, weights, claims, told(catch)))
                for amount, ahead in zip(amounts, before):
                    self.assertGreaterEqual(amount, ahead)
                before = amounts

    def test_the_contrary_way_deals_what_is_lacking(self):
        for way, weights, claims, catches in drawn_cases(29, 150):
            for catch in catches:
                amounts = all_reckoned(dealt(way, weights, claims, told(catch)))
                lacks = all_reckoned(dealt(contrary_way(way), weights, claims, told(sum(claims) - catch)))
                self.assertEqual(lacks, [claim - amount for claim, amount in zip(claims, amounts)])

    def test_outside(self):
        for way in WAYS:
            for claims in ([0], [0, 0], [7], [3, 0, 4], [10 ** 30, 5]):
                weights = ones_for(way, len(claims))
                whole = sum(claims)
                bit = reckoned(TINY)
                for catch in (-bit, -1, -10 ** 40, whole + bit, whole + 1, 10 ** 40):
                    self.assert_refused(Outside, dealt, way, weights, claims, told(catch))

    def test_lists_and_tuples_which_stay_as_they_are(self):
        for way, weights, claims, catches in drawn_cases(30, 80):
            for catch in catches[::3]:
                given = (list(weights), list(claims))
                before = copy.deepcopy(given)
                answer = dealt(way, given[0], given[1], told(catch))
                self.assertEqual(given, before)
                self.assertEqual(dealt(way, tuple(weights), tuple(claims), told(catch)), answer)

    def test_what_is_told_is_the_askers_own(self):
        for way in WAYS:
            weights = ones_for(way, 3)
            answer = dealt(way, weights, [4, 0, 5], (3, 1))
            kept = list(answer)
            answer.append("more")
            answer[0] = None
            self.assertEqual(dealt(way, weights, [4, 0, 5], (3, 1)), kept)
            self.assertIsNot(dealt(way, weights, [4, 0, 5], (3, 1)), dealt(way, weights, [4, 0, 5], (3, 1)))


class Interface(Case):
    def test_names_and_arguments(self):
        self.assert_arguments(ways, {
            "looked": ["way", "weights", "claims"], "dealt": ["way", "weights", "claims", "catch"],
            "contrary_way": ["way"],
        })


if __name__ == "__main__":
    unittest.main()
