"""What several tests need: a second reckoning that shares nothing with the program, and drawn inputs."""

import inspect
import unittest
from fractions import Fraction

from catchhall.customs import boat, knot

TINY = (1, 10 ** 59)
WAYS = ("row", "back", "even", "lack", "part", "half")
WEIGHTED = ("even", "lack")
NO_WAYS = ("", "Row", "row ", " row", "rows", "boat", "evenly", "HALF", "r", "row\n", "even,lack", "0")


def told(number):
    number = Fraction(number)
    return (number.numerator, number.denominator)


def reckoned(one):
    return Fraction(one[0], one[1])


def all_told(some):
    return [told(each) for each in some]


def all_reckoned(some):
    return [reckoned(each) for each in some]


def points_of(*pairs):
    return [(told(x), told(y)) for x, y in pairs]


def reckoned_points(line):
    return [(reckoned(x), reckoned(y)) for x, y in line]


def reckoned_value(line, x):
    """The line's value, found piece by piece from the left."""
    points = reckoned_points(line)
    if x == 0:
        return Fraction(0)
    for (x0, y0), (x1, y1) in zip(points, points[1:]):
        if x0 < x <= x1:
            return (y0 * (x1 - x) + y1 * (x - x0)) / (x1 - x0)
    raise AssertionError("no such x")


def looked_at(*some):
    """All the x of these lines' points, and three between each two of them."""
    joints = sorted({reckoned(x) for line in some for x, _ in line})
    between = [one + (two - one) * Fraction(k, 4) for one, two in zip(joints, joints[1:]) for k in (1, 2, 3)]
    return sorted(joints + between)


def reckoned_turned(line):
    """The line turned about, point by point."""
    points = reckoned_points(line)
    end, top = points[-1]
    return tuple(points_of(*[(end - x, top - y) for x, y in reversed(points)]))


def level_dealt(weights, claims, catch):
    """What claims (fractions, too) get of a catch at a level, found between the two neighbouring full levels."""
    def at(level):
        return [min(level * weight, Fraction(claim)) for weight, claim in zip(weights, claims)]
    low = Fraction(0)
    for high in sorted({Fraction(claim) / weight for weight, claim in zip(weights, claims)}):
        if sum(at(high)) >= catch:
            if sum(at(high)) == sum(at(low)):
                return at(high)
            return at(low + (high - low) * (catch - sum(at(low))) / (sum(at(high)) - sum(at(low))))
        low = high
    raise AssertionError("no such level")


def reckoned_dealt(way, weights, claims, catch):
    """What a way deals, straight by the words of point 8, in Python's own fractions."""
    whole = sum(claims)
    if way in ("row", "back"):
        order = range(len(claims)) if way == "row" else reversed(range(len(claims)))
        amounts = [Fraction(0)] * len(claims)
        left = Fraction(catch)
        for k in order:
            amounts[k] = min(left, Fraction(claims[k]))
            left -= amounts[k]
        return amounts
    if way == "even":
        return level_dealt(weights, claims, catch)
    if way == "lack":
        return [claim - lack for claim, lack in zip(claims, level_dealt(weights, claims, whole - catch))]
    if way == "part":
        return [Fraction(claim) * catch / whole if whole else Fraction(0) for claim in claims]
    halves = [Fraction(claim, 2) for claim in claims]
    ones = [1] * len(claims)
    if catch * 2 <= whole:
        return level_dealt(ones, halves, catch)
    return [claim - lack for claim, lack in zip(claims, level_dealt(ones, halves, whole - catch))]


def claims_in(custom):
    return [custom[1]] if custom[0] == "boat" else [claim for kid in custom[2] for claim in claims_in(kid)]


def boats_in(custom):
    return len(claims_in(custom))


def claimed(custom):
    return sum(claims_in(custom))


def reckoned_shares(custom, catch):
    if custom[0] == "boat":
        return [Fraction(catch)]
    amounts = reckoned_dealt(custom[0], custom[1], [claimed(kid) for kid in custom[2]], catch)
    return [share for kid, amount in zip(custom[2], amounts) for share in reckoned_shares(kid, amount)]


def reckoned_fish(custom, catch):
    """By the words of point 19: one fish after another to the boat with the greatest broken part that got none yet."""
    exact = reckoned_shares(custom, catch)
    dealt = [share.numerator // share.denominator for share in exact]
    broken = [share - floor for share, floor in zip(exact, dealt)]
    for _ in range(catch - sum(dealt)):
        lucky = broken.index(max(broken))
        dealt[lucky] += 1
        broken[lucky] = Fraction(-1)
    return dealt


def claims_put(custom, claims):
    """The same tree with other claims."""
    if custom[0] == "boat":
        return ("boat", claims.pop(0))
    return (custom[0], custom[1], tuple(claims_put(kid, claims) for kid in custom[2]))


class Book:
    """A second ledger, by the words of point 22."""

    def __init__(self, custom, names):
        self.custom, self.names = custom, list(names)
        self.got, self.kept, self.tape = [0] * len(self.names), 0, []

    def ask(self, name, claim):
        claims = claims_in(self.custom)
        claims[self.names.index(name)] = claim
        self.custom = claims_put(self.custom, claims)
        self.tape.append(("ask", name, claim))
        return [("ask", name, claim)]

    def land(self, catch):
        gets = reckoned_fish(self.custom, min(catch, claimed(self.custom)))
        facts = [("land", catch)]
        facts += [("gets", name, many) for name, many in zip(self.names, gets) if many]
        if catch > sum(gets):
            facts.append(("kept", catch - sum(gets)))
        self.custom = claims_put(self.custom, [one - two for one, two in zip(claims_in(self.custom), gets)])
        self.got = [one + two for one, two in zip(self.got, gets)]
        self.kept += catch - sum(gets)
        self.tape += facts
        return facts


def drawn_weights(chance, way, many):
    """Weights for a way; often some that are alike."""
    if way not in WEIGHTED:
        return []
    most = chance.choice((1, 2, 3, 12, 10 ** 6))
    return [chance.randrange(1, most + 1) for _ in range(many)]


def drawn_claims(chance, many, figures=(1, 1, 2, 9, 30)):
    """Claims that are often alike or nought."""
    most = 10 ** chance.choice(figures)
    pool = [0] + [chance.randrange(most) for _ in range(chance.randrange(1, many + 2))]
    return [chance.choice(pool) for _ in range(many)]


def drawn_custom(chance, boats=12, deep=8, most=30):
    """A custom of at most so many boats, so deep, each claim at most so great."""
    if deep == 1 or chance.random() < 0.15:
        return boat(chance.choice((0, 1, chance.randrange(most + 1), chance.randrange(most + 1), most)))
    many = chance.choice((1, 2, 2, 2, 3, 3, 4, boats))
    kids = []
    left = boats
    while left > 0 and len(kids) < many:
        kids.append(drawn_custom(chance, left if chance.random() < 0.3 else (left + 1) // 2, deep - 1, most))
        left -= boats_in(kids[-1])
    way = chance.choice(WAYS)
    return knot(way, drawn_weights(chance, way, len(kids)), kids)


def roughened(chance, custom):
    """A custom that deals alike by more knots: one of 4 deep stays within 8."""
    if custom[0] != "boat":
        way, weights, kids = custom[0], list(custom[1]), [roughened(chance, kid) for kid in custom[2]]
        if weights:
            factor = chance.randrange(1, 10 ** 6 // max(weights) + 1)
            weights = [weight * factor for weight in weights]
        custom = knot(way, weights, kids)
        if way in ("row", "back", "part") and len(kids) > 2 and chance.random() < 0.5:
            cut = chance.randrange(1, len(kids))
            custom = knot(way, [], [knot(way, [], kids[:cut]), knot(way, [], kids[cut:])])
        elif chance.random() < 0.4:
            custom = in_lone_knot(chance, custom)
    elif chance.random() < 0.3:
        custom = in_lone_knot(chance, custom)
    return custom


def in_lone_knot(chance, custom):
    way = chance.choice(WAYS)
    return knot(way, drawn_weights(chance, way, 1), [custom])


def with_ways(chance, custom):
    """The same tree, some of whose knots deal in other ways."""
    if custom[0] == "boat":
        return custom
    kids = [with_ways(chance, kid) for kid in custom[2]]
    if chance.random() < 0.7:
        return knot(custom[0], custom[1], kids)
    way = chance.choice(WAYS)
    return knot(way, drawn_weights(chance, way, len(kids)), kids)


def drawn_names(chance, many):
    """Names, no two alike, some of them the words of ways and deeds, of one letter and of twelve."""
    names = list(WAYS) + ["boat", "ask", "land", "gets", "kept", "custom", "refused"]
    while len(names) < 30:
        name = "".join(chance.choice("abcxyz") for _ in range(chance.choice((1, 2, 5, 12))))
        if name not in names:
            names.append(name)
    return chance.sample(names, many)


def catches_for(custom):
    """Catches from nought to the claim, whole ones and parts."""
    whole = claimed(custom)
    return sorted({Fraction(whole) * k / 7 for k in range(8)} | {Fraction(whole // 2), Fraction(whole, 3)})


class Case(unittest.TestCase):
    def assert_fractions(self, some):
        """A list of fractions, each in its one form."""
        self.assertIs(type(some), list)
        for one in some:
            self.assertIs(type(one), tuple)
            self.assertEqual([type(part) for part in one], [int, int])
            self.assertEqual(one, told(reckoned(one)))

    def assert_line(self, line):
        self.assertIs(type(line), tuple)
        for point in line:
            self.assertIs(type(point), tuple)
            self.assertEqual(len(point), 2)
            self.assert_fractions(list(point))
        self.assertEqual(line[0], ((0, 1), (0, 1)))
        points = reckoned_points(line)
        slopes = []
        for (x0, y0), (x1, y1) in zip(points, points[1:]):
            self.assertLess(x0, x1)
            self.assertLessEqual(y0, y1)
            slopes.append((y1 - y0) / (x1 - x0))
        for one, two in zip(slopes, slopes[1:]):
            self.assertNotEqual(one, two)

    def assert_refused(self, refusal, asked, *given):
        """Refused by just this class, each time alike, and what is handed in stays as it is."""
        before = repr(given)
        for _ in range(2):
            with self.assertRaises(refusal) as taken:
                asked(*given)
            self.assertIs(taken.exception.__class__, refusal)
        self.assertEqual(repr(given), before)

    def assert_arguments(self, module, asked):
        for name, arguments in asked.items():
            signature = inspect.signature(getattr(module, name))
            self.assertEqual(list(signature.parameters), arguments, name)
