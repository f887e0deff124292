import copy
import random
import unittest
from fractions import Fraction

from catchhall import finding
from catchhall.customs import boat, claims_of, knot, shares
from catchhall.errors import Unlike
from catchhall.finding import found_back, shows
from helping import (
    TINY, WAYS, WEIGHTED, Case, all_told, boats_in, catches_for, claimed, drawn_custom, reckoned, reckoned_dealt,
    reckoned_shares, told,
)

# Knots in knots, with kids 0 (a boat), 1 (two boats and a knot of two boats), 2 (a knot of one boat).
SOME = knot("row", [], [
    boat(4),
    knot("even", [1, 2, 1], [boat(6), boat(6), knot("part", [], [boat(2), boat(4)])]),
    knot("half", [], [boat(5)]),
])


def kid_amounts(custom, amounts):
    pieces = []
    for kid in custom[2]:
        pieces.append(amounts[:boats_in(kid)])
        amounts = amounts[boats_in(kid):]
    return pieces


def pair_is_wrong(custom, amounts, one, other):
    has = [sum(piece) for piece in kid_amounts(custom, amounts)]
    claims = [claimed(custom[2][one]), claimed(custom[2][other])]
    weights = [custom[1][one], custom[1][other]] if custom[1] else []
    both = has[one] + has[other]
    if both < 0 or both > sum(claims):
        return True
    return reckoned_dealt(custom[0], weights, claims, both) != [has[one], has[other]]


def pairs_below(custom, amounts, path=()):
    """All knots' pairs of kids, in the order of point 18, each with whether it is wrong."""
    if custom[0] == "boat":
        return []
    many = len(custom[2])
    found = []
    for one in range(many):
        for other in range(one + 1, many):
            found.append((("pair", path, one, other), pair_is_wrong(custom, amounts, one, other)))
    for k, (kid, piece) in enumerate(zip(custom[2], kid_amounts(custom, amounts))):
        found += pairs_below(kid, piece, path + (k,))
    return found


def reckoned_paper(custom, amounts):
    for k, (amount, claim) in enumerate(zip(amounts, claims_of(custom))):
        if amount < 0 or amount > claim:
            return ("over", k)
    for paper, wrong in pairs_below(custom, amounts):
        if wrong:
            return paper
    return ("catch", told(sum(amounts)))


def drawn_amounts(chance, custom):
    """Shares at some catch, often with something moved between two boats, given or taken away."""
    amounts = reckoned_shares(custom, chance.choice(catches_for(custom)))
    for _ in range(chance.choice((0, 1, 1, 2))):
        one, other = chance.randrange(len(amounts)), chance.randrange(len(amounts))
        some = chance.choice((Fraction(1), Fraction(1, 3), reckoned(TINY), amounts[one], Fraction(claimed(custom))))
        amounts[one] -= some
        if chance.random() < 0.6:
            amounts[other] += some
    return amounts


class FoundBackByHand(Case):
    def assert_paper(self, custom, amounts, paper):
        answer = found_back(custom, all_told(amounts))
        self.assertEqual(answer, paper)
        self.assertIs(type(answer), tuple)
        self.assertEqual(found_back(custom, tuple(all_told(amounts))), paper)
        self.assertIs(shows(custom, all_told(amounts), paper), True)

    def test_catches(self):
        self.assert_paper(SOME, [0, 0, 0, 0, 0, 0], ("catch", (0, 1)))
        self.assert_paper(SOME, [4, 6, 6, 2, 4, 5], ("catch", (27, 1)))
        self.assert_paper(SOME, [4, 1, 2, Fraction(1, 3), Fraction(2, 3), 0], ("catch", (8, 1)))
        self.assert_paper(boat(5), [Fraction(7, 2)], ("catch", (7, 2)))
        self.assert_paper(boat(0), [0], ("catch", (0, 1)))

    def test_below_nought_and_above_a_claim(self):
        self.assert_paper(SOME, [5, 0, 0, 0, 0, 0], ("over", 0))
        self.assert_paper(SOME, [4, 0, 7, -1, 0, 0], ("over", 2))
        self.assert_paper(SOME, [4, 0, 6, 0, 0, 6], ("over", 5))
        self.assert_paper(SOME, [4, -reckoned(TINY), 6, 0, 0, 6], ("over", 1))
        self.assert_paper(SOME, [4, 6 + reckoned(TINY), 6, 0, 0, 6], ("over", 1))
        self.assert_paper(boat(5), [-1], ("over", 0))
        self.assert_paper(boat(5), [6], ("over", 0))

    def test_the_first_knot_and_the_least_numbers(self):
        self.assert_paper(SOME, [3, 1, 0, 0, 0, 1], ("pair", (), 0, 1))
        self.assert_paper(SOME, [3, 0, 0, 0, 0, 1], ("pair", (), 0, 2))
        self.assert_paper(SOME, [4, 1, 0, 0, 0, 1], ("pair", (), 1, 2))
        self.assert_paper(SOME, [4, 1, 3, 0, 3, 0], ("pair", (1,), 0, 1))
        self.assert_paper(SOME, [4, 1, 2, 0, 3, 0], ("pair", (1,), 0, 2))
        self.assert_paper(SOME, [4, 1, 2, Fraction(1, 2), Fraction(1, 2), 0], ("pair", (1, 2), 0, 1))

    def test_a_knot_ahead_of_its_kids_and_these_from_left_to_right(self):
        inner = knot("part", [], [boat(2), boat(2)])
        custom = knot("part", [], [knot("part", [], [inner, inner]), knot("part", [], [inner, inner])])
        self.assert_paper(custom, [1, 0, 1, 0, 1, 0, 1, 0], ("pair", (0, 0), 0, 1))
        self.assert_paper(custom, [1, 1, 1, 1, 1, 1, 2, 0], ("pair", (1, 1), 0, 1))
        self.assert_paper(custom, [2, 0, 1, 0, 2, 1, 0, 0], ("pair", (0,), 0, 1))
        self.assert_paper(custom, [2, 0, 2, 0, 2, 1, 1, 0], ("pair", (0, 0), 0, 1))
        self.assert_paper(custom, [1, 1, 1, 1, 2, 1, 1, 0], ("pair", (1,), 0, 1))
        self.assert_paper(custom, [2, 0, 2, 0, 2, 0, 2, 1], ("pair", (), 0, 1))

    def test_half_and_lack_and_back(self):
        half = knot("half", [], [boat(2), boat(4), boat(6)])
        self.assert_paper(half, [1, Fraction(3, 2), Fraction(3, 2)], ("catch", (4, 1)))
        self.assert_paper(half, [1, 1, 2], ("pair", (), 1, 2))
        self.assert_paper(knot("lack", [1, 2], [boat(4), boat(4)]), [3, 2], ("catch", (5, 1)))
        self.assert_paper(knot("lack", [2, 1], [boat(4), boat(4)]), [3, 2], ("pair", (), 0, 1))
        self.assert_paper(knot("back", [], [boat(4), boat(4)]), [1, 3], ("pair", (), 0, 1))


class FoundBack(Case):
    def test_shares_tell_the_catch(self):
        chance = random.Random(91)
        for _ in range(100):
            custom = drawn_custom(chance, most=chance.choice((3, 30, 10 ** 9)))
            for catch in catches_for(custom):
                paper = ("catch", told(catch))
                self.assertEqual(found_back(custom, shares(custom, told(catch))), paper)
                self.assertEqual(found_back(custom, tuple(all_told(reckoned_shares(custom, catch)))), paper)

    def test_drawn_amounts(self):
        chance = random.Random(92)
        seen = {"catch": 0, "over": 0, "pair": 0}
        for _ in range(600):
            custom = drawn_custom(chance)
            amounts = drawn_amounts(chance, custom)
            given = all_told(amounts)
            before = copy.deepcopy(given)
            paper = found_back(custom, given)
            self.assertEqual(given, before)
            self.assertEqual(paper, reckoned_paper(custom, amounts))
            if paper[0] == "pair":
                self.assertIs(type(paper[1]), tuple)
            self.assertIs(shows(custom, given, paper), True)
            seen[paper[0]] += 1
        for many in seen.values():
            self.assertGreater(many, 60)

    def test_catch_is_told_just_where_the_amounts_are_shares(self):
        chance = random.Random(93)
        for _ in range(300):
            custom = drawn_custom(chance)
            amounts = drawn_amounts(chance, custom)
            whole = sum(amounts)
            right = 0 <= whole <= claimed(custom) and reckoned_shares(custom, whole) == amounts
            self.assertEqual(found_back(custom, all_told(amounts))[0] == "catch", right)


class Shows(Case):
    def assert_shows(self, amounts, paper, asked, custom=SOME):
        given = all_told(amounts)
        self.assertIs(shows(custom, given, paper), asked, (amounts, paper))
        self.assertIs(shows(custom, tuple(given), paper), asked, (amounts, paper))

    def test_catches(self):
        right = [4, 1, 2, Fraction(1, 3), Fraction(2, 3), 0]
        self.assert_shows(right, ("catch", (8, 1)), True)
        for catch in (7, 9, 0, -8, 27, 28, 10 ** 40, -1, Fraction(17, 2), 8 + reckoned(TINY)):
            self.assert_shows(right, ("catch", told(catch)), False)
        for amounts in ([4, 2, 1, 1, 0, 0], [3, 2, 2, Fraction(1, 3), Fraction(2, 3), 0]):
            self.assert_shows(amounts, ("catch", (8, 1)), False)

    def test_a_catch_below_nought_or_above_the_claim(self):
        self.assert_shows([-1], ("catch", (-1, 1)), False, boat(5))
        self.assert_shows([6], ("catch", (6, 1)), False, boat(5))
        self.assert_shows([5], ("catch", (5, 1)), True, boat(5))
        self.assert_shows([4, 6, 6, 2, 4, 6], ("catch", (28, 1)), False)
        self.assert_shows([-1, 0, 0, 0, 0, 0], ("catch", (-1, 1)), False)

    def test_over(self):
        amounts = [4, 7, 6, -1, 4, 5]
        for number in range(-8, 9):
            self.assert_shows(amounts, ("over", number), number in (1, 3))
        for number in (10 ** 30, -10 ** 30):
            self.assert_shows(amounts, ("over", number), False)
        self.assert_shows([4, 6, 6, 2, 4, 5 + reckoned(TINY)], ("over", 5), True)
        self.assert_shows([4, 6, 6, 2, 4, 5 + reckoned(TINY)], ("over", -1), False)
        self.assert_shows([-reckoned(TINY), 6, 6, 2, 4, 5], ("over", 0), True)

    def both_paths(self, amounts, path, one, other, asked):
        self.assert_shows(amounts, ("pair", tuple(path), one, other), asked)
        self.assert_shows(amounts, ("pair", list(path), one, other), asked)

    def test_pairs(self):
        amounts = [3, 1, 2, 1, 0, 1]
        for path, one, other, asked in (
            ((), 0, 1, True), ((), 0, 2, True), ((), 1, 2, True), ((1,), 0, 1, False), ((1,), 0, 2, False),
            ((1,), 1, 2, False), ((1, 2), 0, 1, True),
        ):
            self.both_paths(amounts, path, one, other, asked)
        right = [4, 1, 2, Fraction(1, 3), Fraction(2, 3), 0]
        for path, one, other in (((), 0, 1), ((), 0, 2), ((), 1, 2), ((1,), 0, 1), ((1, 2), 0, 1)):
            self.both_paths(right, path, one, other, False)

    def test_paths_that_lead_to_no_kid_or_to_a_boat(self):
        amounts = [3, 1, 0, 0, 5, 1]
        for path in (
            (0,), (1, 0), (2, 0), (1, 2, 1), (3,), (-1,), (-2,), (1, -1), (1, 3), (0, 0), (1, 2, 0, 0), (-1, 0),
            (10 ** 30,), (-10 ** 30,), (1,) * 30,
        ):
            self.both_paths(amounts, path, 0, 1, False)
        self.both_paths(amounts, (1, 2), 0, 1, True)
        self.assert_shows([9], ("pair", (), 0, 1), False, boat(5))

    def test_numbers_that_are_none(self):
        amounts = [3, 1, 0, 0, 5, 1]
        self.both_paths(amounts, (), 0, 1, True)
        for one, other in (
            (1, 0), (0, 0), (1, 1), (2, 2), (2, 1), (0, 3), (1, 3), (-1, 0), (-1, 1), (-2, -1), (-3, -2), (0, -1),
            (3, 4), (0, 10 ** 30), (-10 ** 30, 0),
        ):
            self.both_paths(amounts, (), one, other, False)
        for one, other in ((0, 1), (0, 0), (-1, 0)):
            self.both_paths(amounts, (2,), one, other, False)

    def test_sums_that_cannot_be_dealt_to_the_two(self):
        for way in WAYS:
            weights = [2, 1] if way in WEIGHTED else []
            custom = knot(way, weights, [boat(3), boat(4)])
            for amounts in ([-1, 0], [0, -1], [-3, 2], [4, 4], [3, 5], [-2, 10], [0, 8]):
                self.assert_shows(amounts, ("pair", (), 0, 1), True, custom)
            for amounts in ([-1, 3], [4, 0], [-1, 1], [4, 3]):
                self.assert_shows(amounts, ("pair", (), 0, 1), True, custom)
            for amounts in ([0, 0], [3, 4]):
                self.assert_shows(amounts, ("pair", (), 0, 1), False, custom)

    def test_drawn_papers(self):
        chance = random.Random(94)
        for _ in range(300):
            custom = drawn_custom(chance)
            amounts = drawn_amounts(chance, custom)
            pairs = pairs_below(custom, amounts)
            for paper, wrong in pairs[:40]:
                self.assert_shows(amounts, paper, wrong, custom)
                self.assert_shows(amounts, (paper[0], list(paper[1]), paper[2], paper[3]), wrong, custom)
            overs = [not 0 <= amount <= claim for amount, claim in zip(amounts, claims_of(custom))]
            for number, over in enumerate(overs):
                self.assert_shows(amounts, ("over", number), over, custom)
            whole = sum(amounts)
            right = 0 <= whole <= claimed(custom) and reckoned_shares(custom, whole) == amounts
            self.assert_shows(amounts, ("catch", told(whole)), right, custom)
            # No two papers show both.
            self.assertNotEqual(right, any(overs) or any(wrong for _, wrong in pairs))

    def test_what_is_handed_in_stays(self):
        amounts = all_told([3, 1, 2, 1, 0, 1])
        paper = ("pair", [1, 2], 0, 1)
        shows(SOME, amounts, paper)
        self.assertEqual(amounts, all_told([3, 1, 2, 1, 0, 1]))
        self.assertEqual(paper, ("pair", [1, 2], 0, 1))


class Refused(Case):
    def test_too_many_or_too_few_amounts(self):
        for custom in (boat(5), SOME, knot("row", [], [boat(0)])):
            many = boats_in(custom)
            for given in (0, many - 1, many + 1, many + 12):
                if given != many:
                    for amount in ((0, 1), (-1, 1), (10 ** 30, 1)):
                        for kind in (list, tuple):
                            amounts = kind([amount] * given)
                            self.assert_refused(Unlike, found_back, custom, amounts)
                            for paper in (("catch", (0, 1)), ("over", 0), ("pair", [9], 0, 1)):
                                self.assert_refused(Unlike, shows, custom, amounts, paper)


class Interface(Case):
    def test_names_and_arguments(self):
        self.assert_arguments(finding, {
            "found_back": ["custom", "amounts"], "shows": ["custom", "amounts", "paper"],
        })


if __name__ == "__main__":
    unittest.main()
