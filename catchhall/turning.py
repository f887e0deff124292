"""Customs turned about, and made plain."""

from catchhall.customs import is_boat, kids_of, knot, way_of, weights_of
from catchhall.fractions import common_divisor
from catchhall.ways import contrary_way

# A kid that deals in such a way, in a knot of the same way, deals just as its kids would in its place.
OPENED = ("row", "back", "part")


def contrary(custom):
    if is_boat(custom):
        return custom
    kids = [contrary(kid) for kid in kids_of(custom)]
    return knot(contrary_way(way_of(custom)), weights_of(custom), kids)


def is_plain(custom):
    # Each step leaves fewer knots or lesser weights, so a custom with which one can be done does not stay as it is.
    return plain(custom) == custom


def plain(custom):
    if is_boat(custom):
        return custom
    # Kids go first: a knot that is replaced by its kid may leave one of the way of the knot above.
    kids = [plain(kid) for kid in kids_of(custom)]
    if len(kids) == 1:
        return kids[0]
    return knot(way_of(custom), divided(weights_of(custom)), opened(way_of(custom), kids))


def opened(way, kids):
    if way not in OPENED:
        return kids
    told = []
    for kid in kids:
        if way_of(kid) == way:
            told.extend(kids_of(kid))
        else:
            told.append(kid)
    return told


def divided(weights):
    divisor = 0
    for weight in weights:
        divisor = common_divisor(divisor, weight)
    return [weight // divisor for weight in weights]
