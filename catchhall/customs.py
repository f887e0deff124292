"""Customs: trees of boats and of knots that deal what they get among their kids."""

from catchhall.errors import BadClaim, Outside, TooMany
from catchhall.fractions import refuse_outside, whole
from catchhall.ways import dealt, refuse_way, refuse_weights

BOAT = "boat"
MOST_BOATS = 12
DEEPEST = 8


def boat(claim):
    if claim < 0 or claim > 10 ** 9:
        raise BadClaim("a boat's claim is not from 0 to 10 ** 9")
    return (BOAT, claim)


def knot(way, weights, kids):
    refuse_way(way)
    refuse_weights(way, weights, len(kids))
    custom = (way, tuple(weights), tuple(kids))
    # Each kid has a boat, so more kids than boats are allowed would be too many boats too.
    if len(kids) == 0 or len(claims_of(custom)) > MOST_BOATS or deep_of(custom) > DEEPEST:
        raise TooMany("no kid, or too many boats, or too deep")
    return custom


def is_boat(custom):
    return custom[0] == BOAT


def way_of(custom):
    return custom[0]


def weights_of(custom):
    return custom[1]


def kids_of(custom):
    return () if is_boat(custom) else custom[2]


def claims_of(custom):
    if is_boat(custom):
        return [custom[1]]
    claims = []
    for kid in kids_of(custom):
        claims.extend(claims_of(kid))
    return claims


def claim_of(custom):
    return sum(claims_of(custom))


def kid_claims(custom):
    return [claim_of(kid) for kid in kids_of(custom)]


def deep_of(custom):
    return 1 + max([deep_of(kid) for kid in kids_of(custom)], default=0)


def kid_at(custom, path):
    for spot in path:
        kids = kids_of(custom)
        if spot < 0 or spot >= len(kids):
            raise Outside("there is no such kid")
        custom = kids[spot]
    return custom


# Of a list with one thing for each boat of the custom: each kid's own piece.
def by_kid(custom, some):
    pieces = []
    start = 0
    for kid in kids_of(custom):
        end = start + len(claims_of(kid))
        pieces.append(some[start:end])
        start = end
    return pieces


def shares(custom, catch):
    refuse_outside(catch, whole(claim_of(custom)))
    return dealt_on(custom, catch)


def dealt_on(custom, catch):
    if is_boat(custom):
        return [catch]
    amounts = dealt(way_of(custom), weights_of(custom), kid_claims(custom), catch)
    told = []
    for kid, amount in zip(kids_of(custom), amounts):
        told.extend(dealt_on(kid, amount))
    return told
