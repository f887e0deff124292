"""Broken lines: tuples of points (x, y), always in as few points as can be."""

from catchhall.errors import BadLine, Unlike
from catchhall.fractions import NOUGHT, less, minus, over, plus, refuse_outside, times

# A point's places, for what is done along either axis.
ACROSS = 0
UP = 1


def line_of(points):
    refuse_bad(points)
    kept = []
    for point in points:
        # One look back is enough: the piece ahead of a point that is left out keeps its slope.
        if len(kept) > 1 and is_between(kept[-2], kept[-1], point):
            kept.pop()
        kept.append(point)
    return tuple(kept)


def refuse_bad(points):
    if len(points) == 0:
        raise BadLine("a line has a point")
    if points[0] != (NOUGHT, NOUGHT):
        raise BadLine("the first point is not nought and nought")
    for spot in range(1, len(points)):
        ahead = points[spot - 1]
        point = points[spot]
        if not less(ahead[ACROSS], point[ACROSS]):
            raise BadLine("an x is not greater than the one ahead")
        if less(point[UP], ahead[UP]):
            raise BadLine("a y is less than the one ahead")


def is_between(ahead, point, later):
    # Slopes are compared by products, as both pieces have a length above nought.
    rise = minus(point[UP], ahead[UP])
    later_rise = minus(later[UP], point[UP])
    run = minus(point[ACROSS], ahead[ACROSS])
    later_run = minus(later[ACROSS], point[ACROSS])
    return times(rise, later_run) == times(later_rise, run)


def length(line):
    return line[-1][ACROSS]


def height(line):
    return line[-1][UP]


def value(line, x):
    refuse_outside(x, length(line))
    return met(line, ACROSS, x)


def stretch(line, y):
    refuse_outside(y, height(line))
    least = met(line, UP, y)
    # As few points as can be: a level piece ends at the very next point.
    end = line[min(first_reaching(line, UP, y) + 1, len(line) - 1)]
    if end[UP] == y:
        return (least, end[ACROSS])
    return (least, least)


def first_reaching(line, axis, amount):
    low = 0
    high = len(line) - 1
    while low < high:
        middle = (low + high) // 2
        if less(line[middle][axis], amount):
            low = middle + 1
        else:
            high = middle
    return low


# Where the line first has the amount along one axis: its place along the other axis.
def met(line, axis, amount):
    other = 1 - axis
    spot = first_reaching(line, axis, amount)
    there = line[spot]
    if there[axis] == amount:
        return there[other]
    here = line[spot - 1]
    part = over(minus(amount, here[axis]), minus(there[axis], here[axis]))
    return plus(here[other], times(part, minus(there[other], here[other])))


def sum_of(one, two):
    if length(one) != length(two):
        raise Unlike("the lines are not of one length")
    joints = merged(places(one), places(two))
    return line_of([(x, plus(value(one, x), value(two, x))) for x in joints])


def behind(one, two):
    if length(one) != height(two):
        raise Unlike("the first line's length is not the second one's height")
    # The least x is enough: where there are more, both ends of the level piece are joints of the second line.
    bends = [met(two, UP, x) for x in places(one)]
    joints = merged(places(two), bends)
    return line_of([(x, value(one, value(two, x))) for x in joints])


def places(line):
    return [point[ACROSS] for point in line]


# Both lists ascend without doubles, and so does what comes of them.
def merged(one, two):
    both = []
    spot = 0
    for x in one:
        while spot < len(two) and less(two[spot], x):
            both.append(two[spot])
            spot += 1
        if spot < len(two) and two[spot] == x:
            spot += 1
        both.append(x)
    both.extend(two[spot:])
    return both


def turned(line):
    end = line[-1]
    return tuple([(minus(end[ACROSS], point[ACROSS]), minus(end[UP], point[UP])) for point in reversed(line)])
