"""Whole fish: catches dealt without breaking any."""

from catchhall.customs import claim_of, shares
from catchhall.errors import TooMany
from catchhall.fractions import floor_of, minus, ranked, whole


def fish(custom, catch):
    exact = shares(custom, whole(catch))
    told = [floor_of(share) for share in exact]
    # Below nought, so that the greatest broken part ranks first, and the earlier boat of equal ones still does.
    broken = [minus(whole(floor), share) for floor, share in zip(told, exact)]
    left = catch - sum(told)
    for number in ranked(broken)[:left]:
        told[number] += 1
    return told


def drops(custom):
    claim = claim_of(custom)
    if claim > 100:
        raise TooMany("the claim is above 100")
    deals = [fish(custom, catch) for catch in range(claim + 1)]
    return [catch for catch in range(claim) if is_drop(deals[catch], deals[catch + 1])]


def is_drop(here, later):
    return any([more > fewer for more, fewer in zip(here, later)])
