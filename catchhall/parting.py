"""Customs that deal alike, or the catch at which they part."""

from catchhall.customlines import lines_of
from catchhall.customs import claims_of
from catchhall.errors import Unlike
from catchhall.lines import merged, places, value


def alike(one, two):
    return parted(one, two) is None


def parted(one, two):
    if claims_of(one) != claims_of(two):
        raise Unlike("the boats' claims are not the same")
    ones = lines_of(one)
    twos = lines_of(two)
    for number in range(len(ones)):
        if ones[number] != twos[number]:
            return (first_unlike(ones[number], twos[number]), number)
    return None


# Lines that are unlike anywhere are unlike at a joint, as both go straight between all joints of the two.
def first_unlike(one, two):
    joints = merged(places(one), places(two))
    return [x for x in joints if value(one, x) != value(two, x)][0]
