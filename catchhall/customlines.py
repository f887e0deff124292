"""Lines of customs: what each boat gets as the catch grows."""

from catchhall.customs import claim_of, is_boat, kid_claims, kids_of, way_of, weights_of
from catchhall.errors import NoBoat
from catchhall.fractions import NOUGHT, whole
from catchhall.lines import behind, line_of, stretch
from catchhall.waylines import way_lines


def lines_of(custom):
    if is_boat(custom):
        return [straight(claim_of(custom))]
    ways = way_lines(way_of(custom), weights_of(custom), kid_claims(custom))
    told = []
    for kid, way_line in zip(kids_of(custom), ways):
        told.extend([behind(line, way_line) for line in lines_of(kid)])
    return told


def straight(claim):
    start = (NOUGHT, NOUGHT)
    if claim == 0:
        return line_of([start])
    return line_of([start, (whole(claim), whole(claim))])


def catches_of(custom, boat, amount):
    told = lines_of(custom)
    if boat < 0 or boat >= len(told):
        raise NoBoat("there is no boat of that number")
    return stretch(told[boat], amount)
