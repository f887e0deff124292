"""Ways: how a catch is dealt among claims."""

from catchhall.errors import BadClaim, BadWay, BadWeights
from catchhall.fractions import NOUGHT, less, lesser, made, minus, over, plus, ranked, refuse_outside, times, whole

CONTRARY = {"row": "back", "back": "row", "even": "lack", "lack": "even", "part": "part", "half": "half"}
WEIGHTED = ("even", "lack")
HALF = (1, 2)


def looked(way, weights, claims):
    refuse_way(way)
    refuse_claims(claims)
    refuse_weights(way, weights, len(claims))


def refuse_way(way):
    if way not in CONTRARY:
        raise BadWay("no such way")


def refuse_claims(claims):
    if len(claims) == 0:
        raise BadClaim("there is no claim")
    for claim in claims:
        if claim < 0:
            raise BadClaim("a claim is below nought")


def refuse_weights(way, weights, many):
    due = many if way in WEIGHTED else 0
    if len(weights) != due:
        raise BadWeights("more or fewer weights than are due")
    for weight in weights:
        if weight < 1 or weight > 10 ** 6:
            raise BadWeights("a weight is not from 1 to 10 ** 6")


def contrary_way(way):
    refuse_way(way)
    return CONTRARY[way]


def dealt(way, weights, claims, catch):
    looked(way, weights, claims)
    refuse_outside(catch, whole(sum(claims)))
    return rightly_dealt(way, weights, claims, catch)


def rightly_dealt(way, weights, claims, catch):
    most = whole(sum(claims))
    if way == "row":
        return row_dealt(claims, catch)
    if way == "even":
        return even_dealt(weights, claims, catch)
    if way == "part":
        return part_dealt(claims, catch)
    if way == "half" and not less(most, plus(catch, catch)):
        return half_dealt(claims, catch)
    # These deal what is lacking as the contrary way deals what is there; half, its own contrary, comes here
    # only where less than half is lacking.
    lacking = rightly_dealt(CONTRARY[way], weights, claims, minus(most, catch))
    return [minus(whole(claim), lack) for claim, lack in zip(claims, lacking)]


def row_dealt(claims, catch):
    left = catch
    amounts = []
    for claim in claims:
        amount = lesser(left, whole(claim))
        amounts.append(amount)
        left = minus(left, amount)
    return amounts


def even_dealt(weights, claims, catch):
    left = catch
    weight = sum(weights)
    amounts = [NOUGHT] * len(claims)
    # The claim that is full first comes first: whatever is left then is to be dealt by weight among claims that
    # are still open, and a claim that is not filled leaves the level as it is.
    for spot in ranked(levels_of(weights, claims)):
        by_weight = over(times(left, whole(weights[spot])), whole(weight))
        amounts[spot] = lesser(by_weight, whole(claims[spot]))
        left = minus(left, amounts[spot])
        weight -= weights[spot]
    return amounts


# The level at which each claim is just full.
def levels_of(weights, claims):
    return [made(claim, weight) for claim, weight in zip(claims, weights)]


def part_dealt(claims, catch):
    most = sum(claims)
    if most == 0:
        return [NOUGHT] * len(claims)
    part = over(catch, whole(most))
    return [times(part, whole(claim)) for claim in claims]


# For a catch of no more than half of all claims.
def half_dealt(claims, catch):
    # Twice a level up to half of a claim is a level up to the whole claim, and stays among whole numbers.
    ones = [1] * len(claims)
    return [times(amount, HALF) for amount in even_dealt(ones, claims, plus(catch, catch))]
