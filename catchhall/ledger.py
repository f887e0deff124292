"""Ledgers: customs with their boats' names, kept from day to day."""

from catchhall.customs import boat, by_kid, claim_of, claims_of, is_boat, kids_of, knot, way_of, weights_of
from catchhall.errors import BadCatch, NoBoat
from catchhall.fish import fish
from catchhall.written import refuse_names


# The claims lie in the custom alone, so that no two places can tell them differently.
class Ledger:
    def __init__(self, custom, names):
        refuse_names(custom, names)
        self.standing = custom
        self.called = list(names)
        self.had = [0] * len(names)
        self.spare = 0
        self.facts = []

    def ask(self, name, claim):
        if name not in self.called:
            raise NoBoat("there is no boat of that name")
        claims = claims_of(self.standing)
        claims[self.called.index(name)] = claim
        # A claim that no boat can have is refused here, ahead of any change.
        self.standing = with_claims(self.standing, claims)
        return self.noted([("ask", name, claim)])

    def land(self, catch):
        if catch < 0 or catch > 10 ** 12:
            raise BadCatch("a catch is not from 0 to 10 ** 12")
        gets = fish(self.standing, min(catch, claim_of(self.standing)))
        rest = catch - sum(gets)
        claims = claims_of(self.standing)
        self.standing = with_claims(self.standing, [claim - some for claim, some in zip(claims, gets)])
        self.had = [before + some for before, some in zip(self.had, gets)]
        self.spare += rest
        told = [("land", catch)]
        told.extend([("gets", name, some) for name, some in zip(self.called, gets) if some > 0])
        if rest > 0:
            told.append(("kept", rest))
        return self.noted(told)

    def noted(self, told):
        self.facts.extend(told)
        return told

    def custom(self):
        return self.standing

    def names(self):
        return list(self.called)

    def got(self):
        return list(self.had)

    def kept(self):
        return self.spare

    def tape(self):
        return list(self.facts)


# The same tree with these claims, one for each boat.
def with_claims(custom, claims):
    if is_boat(custom):
        return boat(claims[0])
    kids = [with_claims(kid, own) for kid, own in zip(kids_of(custom), by_kid(custom, claims))]
    return knot(way_of(custom), weights_of(custom), kids)
