import random
import unittest

from catchhall import fish as fish_file
from catchhall.customs import boat, claims_of, knot
from catchhall.errors import Outside, TooMany
from catchhall.fish import drops, fish
from helping import WAYS, WEIGHTED, Case, claimed, drawn_custom, reckoned_fish, reckoned_shares

# Two great boats and a little one, which has the last of three fish, and none of four.
DROPPING = knot("part", [], [boat(3), boat(3), boat(1)])


def whole_catches(custom):
    whole = claimed(custom)
    return sorted(catch for catch in {0, 1, whole // 2, whole // 3, whole - 1, whole} if 0 <= catch <= whole)


class ByHand(Case):
    def test_floors_and_broken_parts(self):
        custom = knot("part", [], [boat(2), boat(3), boat(5)])
        self.assertEqual(fish(custom, 3), [1, 1, 1])
        self.assertEqual(fish(custom, 4), [1, 1, 2])
        self.assertEqual(fish(custom, 6), [1, 2, 3])
        self.assertEqual(fish(custom, 7), [1, 2, 4])

    def test_of_equal_broken_parts_the_earlier_boat(self):
        for way in ("even", "lack"):
            custom = knot(way, [1, 1, 1], [boat(4), boat(4), boat(4)])
            for catch, asked in ((1, [1, 0, 0]), (2, [1, 1, 0]), (3, [1, 1, 1]), (4, [2, 1, 1]), (5, [2, 2, 1])):
                self.assertEqual(fish(custom, catch), asked)
        custom = knot("half", [], [boat(0), boat(1), boat(1)])
        self.assertEqual(fish(custom, 1), [0, 1, 0])

    def test_the_greatest_broken_part_wherever_it_stands(self):
        self.assertEqual(fish(knot("even", [1, 2], [boat(9), boat(9)]), 1), [0, 1])
        self.assertEqual(fish(knot("even", [2, 1], [boat(9), boat(9)]), 1), [1, 0])
        self.assertEqual(fish(knot("even", [1, 3, 2], [boat(9), boat(9), boat(9)]), 2), [0, 1, 1])

    def test_a_boat_alone(self):
        for catch in range(6):
            self.assertEqual(fish(boat(5), catch), [catch])
        self.assertEqual(fish(boat(0), 0), [0])

    def test_nought_and_the_claim(self):
        chance = random.Random(101)
        for _ in range(60):
            custom = drawn_custom(chance, most=chance.choice((3, 30, 10 ** 9)))
            self.assertEqual(fish(custom, 0), [0] * len(claims_of(custom)))
            self.assertEqual(fish(custom, claimed(custom)), claims_of(custom))


class Fish(Case):
    def test_drawn_customs(self):
        chance = random.Random(102)
        for _ in range(150):
            custom = drawn_custom(chance, most=chance.choice((3, 30, 10 ** 9)))
            for catch in whole_catches(custom):
                answer = fish(custom, catch)
                self.assertIs(type(answer), list)
                self.assertTrue(all(type(many) is int for many in answer))
                self.assertEqual(answer, reckoned_fish(custom, catch))

    def test_what_point_19_says_of_them(self):
        chance = random.Random(103)
        for _ in range(80):
            custom = drawn_custom(chance, most=12)
            claims = claims_of(custom)
            for catch in whole_catches(custom):
                answer = fish(custom, catch)
                exact = reckoned_shares(custom, catch)
                self.assertEqual(sum(answer), catch)
                far = [many - share for many, share in zip(answer, exact)]
                for many, claim, off in zip(answer, claims, far):
                    self.assertTrue(0 <= many <= claim)
                    self.assertTrue(-1 < off < 1)
                for one in range(len(answer)):
                    for other in range(len(answer)):
                        if one != other:
                            moved = (far[one] - 1) ** 2 + (far[other] + 1) ** 2
                            self.assertLessEqual(far[one] ** 2 + far[other] ** 2, moved)

    def test_boats_without_a_claim_get_none(self):
        for way in WAYS:
            weights = [5, 1, 5, 1] if way in WEIGHTED else []
            custom = knot(way, weights, [boat(0), boat(3), boat(0), boat(4)])
            for catch in range(8):
                answer = fish(custom, catch)
                self.assertEqual((answer[0], answer[2], sum(answer)), (0, 0, catch))

    def test_outside(self):
        chance = random.Random(104)
        some = [boat(0), boat(5), DROPPING, knot("half", [], [boat(0), boat(0)])]
        for custom in some + [drawn_custom(chance) for _ in range(30)]:
            for catch in (-1, -5, -10 ** 30, claimed(custom) + 1, claimed(custom) + 2, 10 ** 30):
                self.assert_refused(Outside, fish, custom, catch)

    def test_what_is_told_is_the_askers_own(self):
        answer = fish(DROPPING, 3)
        kept = list(answer)
        answer[0] = 99
        answer.append(1)
        self.assertEqual(fish(DROPPING, 3), kept)


class Drops(Case):
    def reckoned(self, custom):
        deals = [reckoned_fish(custom, catch) for catch in range(claimed(custom) + 1)]
        found = []
        for catch in range(claimed(custom)):
            if any(here > later for here, later in zip(deals[catch], deals[catch + 1])):
                found.append(catch)
        return found

    def test_by_hand(self):
        # At 3 the parts are 9/7, 9/7 and 3/7, at 4 they are 12/7, 12/7 and 4/7.
        self.assertEqual(fish(DROPPING, 3), [1, 1, 1])
        self.assertEqual(fish(DROPPING, 4), [2, 2, 0])
        self.assertEqual(drops(DROPPING), [3])

    def test_customs_without_drops(self):
        self.assertEqual(drops(boat(0)), [])
        self.assertEqual(drops(boat(1)), [])
        self.assertEqual(drops(boat(100)), [])
        for way in ("row", "back"):
            self.assertEqual(drops(knot(way, [], [boat(30), boat(0), boat(70)])), [])
        self.assertEqual(drops(knot("part", [], [boat(0), boat(0)])), [])
        self.assertEqual(drops(knot("even", [1, 1], [boat(0), boat(1)])), [])

    def test_drawn_customs(self):
        chance = random.Random(105)
        with_drops = 0
        for _ in range(120):
            custom = drawn_custom(chance, most=8)
            if claimed(custom) <= 100:
                answer = drops(custom)
                self.assertIs(type(answer), list)
                self.assertEqual(answer, self.reckoned(custom))
                with_drops += len(answer) > 1
        self.assertGreater(with_drops, 5)

    def test_many_drops_ascending(self):
        custom = knot("part", [], [boat(33), boat(33), boat(11), boat(5), boat(18)])
        answer = drops(custom)
        self.assertGreater(len(answer), 3)
        self.assertEqual(answer, sorted(set(answer)))
        self.assertEqual(answer, self.reckoned(custom))

    def test_claims_of_100_and_101(self):
        hundred = knot("half", [], [boat(60), boat(30), boat(10)])
        self.assertEqual(drops(hundred), self.reckoned(hundred))
        self.assert_refused(TooMany, drops, knot("half", [], [boat(60), boat(30), boat(11)]))
        self.assert_refused(TooMany, drops, boat(101))
        self.assert_refused(TooMany, drops, boat(10 ** 9))

    def test_the_told_list_can_be_changed(self):
        answer = drops(DROPPING)
        answer.append(77)
        answer[0] = 5
        self.assertEqual(drops(DROPPING), [3])


class Interface(Case):
    def test_names_and_arguments(self):
        self.assert_arguments(fish_file, {"fish": ["custom", "catch"], "drops": ["custom"]})


if __name__ == "__main__":
    unittest.main()
