"""Catches found back from what the boats have, or papers that show that no catch leaves so."""

from catchhall.customs import by_kid, claim_of, claims_of, is_boat, kid_at, kids_of, shares, way_of, weights_of
from catchhall.errors import Outside, Unlike
from catchhall.fractions import is_outside, plus, total, whole
from catchhall.ways import dealt

CATCH = "catch"
OVER = "over"
PAIR = "pair"


def found_back(custom, amounts):
    refuse_unlike(custom, amounts)
    for number, claim in enumerate(claims_of(custom)):
        if is_outside(amounts[number], whole(claim)):
            return (OVER, number)
    pair = first_pair(custom, amounts, ())
    if pair is not None:
        return pair
    # By point 9 a knot each two of whose kids have what they should deals rightly, so all shares are right.
    return (CATCH, total(amounts))


def shows(custom, amounts, paper):
    refuse_unlike(custom, amounts)
    if paper[0] == CATCH:
        return is_catch(custom, amounts, paper[1])
    if paper[0] == OVER:
        return is_over(custom, amounts, paper[1])
    return is_pair(custom, amounts, paper)


def refuse_unlike(custom, amounts):
    if len(amounts) != len(claims_of(custom)):
        raise Unlike("not as many amounts as boats")


def is_catch(custom, amounts, catch):
    if is_outside(catch, whole(claim_of(custom))):
        return False
    return shares(custom, catch) == list(amounts)


def is_over(custom, amounts, number):
    if number < 0 or number >= len(amounts):
        return False
    return is_outside(amounts[number], whole(claims_of(custom)[number]))


def is_pair(custom, amounts, paper):
    path = paper[1]
    one = paper[2]
    other = paper[3]
    try:
        there = kid_at(custom, path)
    except Outside:
        return False
    # A boat has no kids, so no two numbers are good for it.
    if one < 0 or one >= other or other >= len(kids_of(there)):
        return False
    return is_wrong(there, amounts_at(custom, amounts, path), one, other)


# Of the amounts of all boats: those of the boats of the custom to which a good path leads.
def amounts_at(custom, amounts, path):
    for spot in path:
        amounts = by_kid(custom, amounts)[spot]
        custom = kids_of(custom)[spot]
    return amounts


def first_pair(custom, amounts, path):
    if is_boat(custom):
        return None
    pair = own_pair(custom, amounts, path)
    if pair is not None:
        return pair
    pieces = by_kid(custom, amounts)
    for spot, kid in enumerate(kids_of(custom)):
        pair = first_pair(kid, pieces[spot], path + (spot,))
        if pair is not None:
            return pair
    return None


def own_pair(custom, amounts, path):
    many = len(kids_of(custom))
    for one in range(many):
        for other in range(one + 1, many):
            if is_wrong(custom, amounts, one, other):
                return (PAIR, path, one, other)
    return None


# Whether the two kids of the knot do not have what its way would deal them of both's sum if they were alone.
def is_wrong(custom, amounts, one, other):
    pieces = by_kid(custom, amounts)
    own = [total(pieces[one]), total(pieces[other])]
    kids = kids_of(custom)
    claims = [claim_of(kids[one]), claim_of(kids[other])]
    weights = weights_of(custom)
    if len(weights) > 0:
        weights = [weights[one], weights[other]]
    try:
        right = dealt(way_of(custom), weights, claims, plus(own[0], own[1]))
    except Outside:
        return True
    return right != own
