import random
import unittest

from catchhall import parting
from catchhall.customlines import lines_of
from catchhall.customs import boat, claims_of, knot
from catchhall.errors import Unlike
from catchhall.parting import alike, parted
from catchhall.turning import contrary, plain
from helping import (
    WAYS, WEIGHTED, Case, drawn_custom, drawn_weights, looked_at, reckoned, reckoned_shares,
    reckoned_value, roughened, told, with_ways,
)


class ByHand(Case):
    def test_parted_at_once(self):
        one = knot("row", [], [boat(2), boat(3)])
        two = knot("back", [], [boat(2), boat(3)])
        self.assertEqual(parted(one, two), ((2, 1), 0))
        self.assertIs(alike(one, two), False)

    def test_the_least_x_of_a_point_of_either_line(self):
        one = knot("even", [1, 1], [boat(2), boat(3)])
        two = knot("part", [], [boat(2), boat(3)])
        self.assertEqual(parted(one, two), ((4, 1), 0))
        self.assertEqual(parted(knot("half", [], [boat(2), boat(3)]), two), ((2, 1), 0))

    def test_where_the_first_boats_have_the_same_lines(self):
        one = knot("row", [], [boat(4), knot("row", [], [boat(0), boat(5)]), knot("row", [], [boat(2), boat(2)])])
        two = knot("row", [], [boat(4), boat(0), boat(5), knot("part", [], [boat(2), boat(2)])])
        self.assertEqual(parted(one, two), ((11, 1), 3))
        late = knot("row", [], [boat(4), boat(0), boat(5), knot("even", [1, 2], [boat(2), boat(2)])])
        self.assertEqual(parted(two, late), ((12, 1), 3))

    def test_alike_by_other_knots(self):
        alikes = (
            (boat(5), knot("half", [], [boat(5)])),
            (knot("even", [1, 1], [boat(3), boat(3)]), knot("part", [], [boat(3), boat(3)])),
            (knot("half", [], [boat(3), boat(3)]), knot("lack", [7, 7], [boat(3), boat(3)])),
            (knot("even", [2, 3], [boat(2), boat(3)]), knot("part", [], [boat(2), boat(3)])),
            (knot("row", [], [boat(0), boat(3)]), knot("back", [], [boat(0), boat(3)])),
            (knot("row", [], [boat(0), boat(0)]), knot("half", [], [boat(0), boat(0)])),
        )
        for one, two in alikes:
            self.assertIs(alike(one, two), True)
            self.assertIsNone(parted(one, two))
            self.assertIsNone(parted(two, one))


class Drawn(Case):
    def assert_parted(self, one, two):
        answer = parted(one, two)
        unlike = [k for k, (a, b) in enumerate(zip(lines_of(one), lines_of(two))) if a != b]
        self.assertIs(alike(one, two), answer is None)
        if answer is None:
            self.assertEqual(unlike, [])
            return False
        self.assertIs(type(answer), tuple)
        catch, number = reckoned(answer[0]), answer[1]
        self.assertEqual(answer[0], told(catch))
        self.assertEqual(number, unlike[0])
        ours, theirs = lines_of(one)[number], lines_of(two)[number]
        joints = sorted({reckoned(x) for x, _ in ours} | {reckoned(x) for x, _ in theirs})
        parting_at = [x for x in joints if reckoned_value(ours, x) != reckoned_value(theirs, x)]
        self.assertEqual(catch, parting_at[0])
        self.assertNotEqual(reckoned_shares(one, catch)[number], reckoned_shares(two, catch)[number])
        self.assertEqual(parted(two, one), answer)
        return True

    def test_customs_with_other_ways(self):
        chance = random.Random(81)
        seen = {True: 0, False: 0}
        for _ in range(150):
            one = drawn_custom(chance, deep=5)
            seen[self.assert_parted(one, with_ways(chance, one))] += 1
        self.assertGreater(seen[True], 30)
        self.assertGreater(seen[False], 5)

    def test_customs_with_other_knots(self):
        chance = random.Random(82)
        seen = {True: 0, False: 0}
        for _ in range(100):
            many = chance.randrange(2, 6)
            claims = [chance.randrange(5) for _ in range(many)]
            some = []
            for _ in range(2):
                cut = chance.randrange(1, many)
                halves = [[boat(claim) for claim in claims[:cut]], [boat(claim) for claim in claims[cut:]]]
                ways = [chance.choice(WAYS) for _ in range(3)]
                kids = [knot(w, drawn_weights(chance, w, len(h)), h) for w, h in zip(ways, halves)]
                some.append(knot(ways[2], drawn_weights(chance, ways[2], 2), kids))
            seen[self.assert_parted(some[0], some[1])] += 1
        self.assertGreater(seen[True], 10)
        self.assertGreater(seen[False], 3)

    def test_alike_just_where_all_shares_are(self):
        chance = random.Random(83)
        for _ in range(60):
            one = drawn_custom(chance, deep=4, boats=6)
            two = with_ways(chance, one)
            catches = looked_at(*(lines_of(one) + lines_of(two)))
            same = all(reckoned_shares(one, x) == reckoned_shares(two, x) for x in catches)
            self.assertIs(alike(one, two), same)

    def test_rough_and_plain_ones_deal_alike(self):
        chance = random.Random(84)
        for _ in range(60):
            one = drawn_custom(chance, deep=4)
            self.assertIs(alike(one, roughened(chance, one)), True)
            self.assertIsNone(parted(roughened(chance, one), plain(one)))
            self.assertIs(alike(one, one), True)

    def test_only_the_weights_differ(self):
        for way in WEIGHTED:
            one = knot(way, [999999, 10 ** 6], [boat(10 ** 9), boat(10 ** 9)])
            two = knot(way, [999998, 999999], [boat(10 ** 9), boat(10 ** 9)])
            self.assertTrue(self.assert_parted(one, two))
            self.assertTrue(self.assert_parted(one, contrary(one)))


class Refused(Case):
    def assert_unlike(self, one, two):
        for asked in (alike, parted):
            self.assert_refused(Unlike, asked, one, two)
            self.assert_refused(Unlike, asked, two, one)

    def test_claims_that_differ(self):
        self.assert_unlike(boat(1), boat(2))
        self.assert_unlike(boat(0), boat(10 ** 9))
        self.assert_unlike(knot("row", [], [boat(2), boat(3)]), knot("row", [], [boat(3), boat(2)]))
        self.assert_unlike(knot("row", [], [boat(2), boat(3)]), knot("back", [], [boat(3), boat(2)]))

    def test_more_or_fewer_boats(self):
        self.assert_unlike(boat(5), knot("row", [], [boat(5), boat(0)]))
        self.assert_unlike(boat(5), knot("row", [], [boat(0), boat(5)]))
        self.assert_unlike(boat(5), knot("part", [], [boat(2), boat(3)]))

    def test_drawn_customs(self):
        chance = random.Random(85)
        for _ in range(100):
            one, two = drawn_custom(chance, most=2), drawn_custom(chance, most=2)
            if claims_of(one) != claims_of(two):
                self.assert_unlike(one, two)


class Interface(Case):
    def test_names_and_arguments(self):
        self.assert_arguments(parting, {"alike": ["one", "two"], "parted": ["one", "two"]})


if __name__ == "__main__":
    unittest.main()
