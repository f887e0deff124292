import copy
import math
import random
import unittest

from catchhall import turning
from catchhall.customlines import lines_of
from catchhall.customs import boat, claims_of, knot, shares
from catchhall.turning import contrary, is_plain, plain
from helping import (
    WAYS, WEIGHTED, Case, all_reckoned, catches_for, claimed, drawn_custom, reckoned_shares, reckoned_turned,
    roughened, told,
)

CONTRARY = {"row": "back", "back": "row", "even": "lack", "lack": "even", "part": "part", "half": "half"}
OPENED = ("row", "back", "part")


def turned_about(custom):
    if custom[0] == "boat":
        return custom
    return (CONTRARY[custom[0]], custom[1], tuple(turned_about(kid) for kid in custom[2]))


def steps_from(custom):
    """All customs that come of one of the three steps of point 15, at the top or anywhere below."""
    if custom[0] == "boat":
        return []
    way, weights, kids = custom
    found = []
    if len(kids) == 1:
        found.append(kids[0])
    divisor = math.gcd(*weights)
    if divisor > 1:
        found.append((way, tuple(weight // divisor for weight in weights), kids))
    for k, kid in enumerate(kids):
        if way in OPENED and kid[0] == way:
            found.append((way, weights, kids[:k] + kid[2] + kids[k + 1:]))
        for other in steps_from(kid):
            found.append((way, weights, kids[:k] + (other,) + kids[k + 1:]))
    return found


def stepped(chance, custom):
    """Steps in a drawn order until none can be done any more."""
    while steps_from(custom):
        custom = chance.choice(steps_from(custom))
    return custom


def drawn_customs(seed, many):
    chance = random.Random(seed)
    for _ in range(many):
        yield drawn_custom(chance)
        yield roughened(chance, drawn_custom(chance, deep=4))


class Contrary(Case):
    def test_boats_stay(self):
        for claim in (0, 5, 10 ** 9):
            self.assertEqual(contrary(boat(claim)), boat(claim))

    def test_each_way(self):
        for way in WAYS:
            weights = [3, 1] if way in WEIGHTED else []
            kids = [boat(5), boat(7)]
            self.assertEqual(contrary(knot(way, weights, kids)), knot(CONTRARY[way], weights, kids))

    def test_ways_of_all_knots_and_all_else_alike(self):
        for custom in drawn_customs(71, 100):
            before = copy.deepcopy(custom)
            self.assertEqual(contrary(custom), turned_about(custom))
            self.assertEqual(contrary(contrary(custom)), custom)
            self.assertEqual(custom, before)

    def test_shares_are_what_the_custom_leaves_lacking(self):
        for custom in drawn_customs(72, 40):
            claims = claims_of(custom)
            for catch in catches_for(custom):
                there = all_reckoned(shares(contrary(custom), told(catch)))
                lacking = reckoned_shares(custom, claimed(custom) - catch)
                self.assertEqual(there, [claim - share for claim, share in zip(claims, lacking)])

    def test_lines_are_turned_about(self):
        for custom in drawn_customs(73, 60):
            self.assertEqual(lines_of(contrary(custom)), [reckoned_turned(line) for line in lines_of(custom)])


class PlainByHand(Case):
    def assert_plain(self, custom, asked):
        self.assertEqual(plain(custom), asked)
        self.assertIs(is_plain(custom), custom == asked)
        self.assertIs(is_plain(asked), True)
        self.assertEqual(plain(asked), asked)

    def test_boats(self):
        for claim in (0, 5, 10 ** 9):
            self.assert_plain(boat(claim), boat(claim))

    def test_knots_with_one_kid(self):
        for way in WAYS:
            for weight in (1, 6):
                custom = knot(way, [weight] if way in WEIGHTED else [], [boat(5)])
                self.assert_plain(custom, boat(5))
                self.assert_plain(knot("half", [], [knot("row", [], [custom])]), boat(5))
                inner = knot("lack", [1, 2], [custom, boat(3)])
                self.assert_plain(inner, knot("lack", [1, 2], [boat(5), boat(3)]))

    def test_eight_deep_with_one_kid_each(self):
        custom = boat(4)
        for way in ("row", "half", "even", "part", "back", "lack", "row"):
            custom = knot(way, [9] if way in WEIGHTED else [], [custom])
        self.assert_plain(custom, boat(4))

    def test_kids_of_their_own_way(self):
        for way in OPENED:
            inner = knot(way, [], [boat(2), boat(3)])
            flat = knot(way, [], [boat(1), boat(2), boat(3), boat(4)])
            self.assert_plain(knot(way, [], [boat(1), inner, boat(4)]), flat)
            self.assert_plain(knot(way, [], [boat(1), knot(way, [], [inner, boat(4)])]), flat)
            self.assert_plain(knot(way, [], [knot(way, [], [knot(way, [], [boat(1), inner]), boat(4)])]), flat)
            for other in OPENED:
                if other != way:
                    stays = knot(other, [], [boat(1), inner])
                    self.assert_plain(stays, stays)

    def test_kids_that_come_to_be_so_by_another_step(self):
        for way in OPENED:
            inner = knot(way, [], [boat(2), boat(3)])
            flat = knot(way, [], [boat(1), boat(2), boat(3)])
            for between in WAYS:
                lone = knot(between, [4] if between in WEIGHTED else [], [inner])
                self.assert_plain(knot(way, [], [boat(1), lone]), flat)

    def test_even_lack_and_half_kids_stay(self):
        for way in ("even", "lack", "half"):
            weights = [1, 2] if way in WEIGHTED else []
            custom = knot(way, weights, [knot(way, weights, [boat(1), boat(2)]), boat(3)])
            self.assert_plain(custom, custom)

    def test_weights_with_a_common_divisor(self):
        for way in WEIGHTED:
            kids = [boat(1), boat(2), boat(3)]
            self.assert_plain(knot(way, [6, 9, 12], kids), knot(way, [2, 3, 4], kids))
            self.assert_plain(knot(way, [10 ** 6] * 3, kids), knot(way, [1, 1, 1], kids))
            self.assert_plain(knot(way, [6, 10, 15], kids), knot(way, [6, 10, 15], kids))
            below = knot("row", [], [boat(9), knot(way, [8, 4, 8], kids)])
            self.assert_plain(below, knot("row", [], [boat(9), knot(way, [2, 1, 2], kids)]))
            lone = knot("half", [], [knot(way, [5], [knot(way, [8, 4, 8], kids)])])
            self.assert_plain(lone, knot(way, [2, 1, 2], kids))


class Plain(Case):
    def test_whatever_the_order_of_steps(self):
        chance = random.Random(74)
        for custom in drawn_customs(75, 150):
            before = copy.deepcopy(custom)
            self.assertEqual(plain(custom), stepped(chance, custom))
            self.assertIs(is_plain(custom), steps_from(custom) == [])
            self.assertEqual(custom, before)

    def test_what_is_told_is_plain_and_plain_of_it_is_itself(self):
        for custom in drawn_customs(76, 100):
            self.assertIs(is_plain(plain(custom)), True)
            self.assertEqual(plain(plain(custom)), plain(custom))

    def test_the_same_boats_and_it_deals_alike(self):
        for custom in drawn_customs(77, 50):
            self.assertEqual(claims_of(plain(custom)), claims_of(custom))
            self.assertEqual(lines_of(plain(custom)), lines_of(custom))

    def test_the_contrary_of_the_plain_is_the_plain_of_the_contrary(self):
        for custom in drawn_customs(78, 100):
            self.assertEqual(contrary(plain(custom)), plain(contrary(custom)))


class Interface(Case):
    def test_names_and_arguments(self):
        self.assert_arguments(turning, {"contrary": ["custom"], "is_plain": ["custom"], "plain": ["custom"]})


if __name__ == "__main__":
    unittest.main()
