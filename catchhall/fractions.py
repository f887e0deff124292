"""Fractions: tuples of top and bottom, always in their one form."""

from catchhall.errors import NoFraction, Outside

NOUGHT = (0, 1)


def common_divisor(one, two):
    one = abs(one)
    two = abs(two)
    while two != 0:
        rest = one % two
        one = two
        two = rest
    return one


def made(top, bottom):
    if bottom == 0:
        raise NoFraction("the bottom is nought")
    divisor = common_divisor(top, bottom)
    # A divisor below nought moves the sign from the bottom to the top.
    if bottom < 0:
        divisor = -divisor
    return (top // divisor, bottom // divisor)


def whole(number):
    return (number, 1)


def plus(one, two):
    return made(one[0] * two[1] + two[0] * one[1], one[1] * two[1])


def minus(one, two):
    return made(one[0] * two[1] - two[0] * one[1], one[1] * two[1])


def times(one, two):
    return made(one[0] * two[0], one[1] * two[1])


def over(one, two):
    # Over nought the bottom comes to nought, which is refused there.
    return made(one[0] * two[1], one[1] * two[0])


def less(one, two):
    return one[0] * two[1] < two[0] * one[1]


def lesser(one, two):
    return one if less(one, two) else two


def is_outside(amount, most):
    return less(amount, NOUGHT) or less(most, amount)


def refuse_outside(amount, most):
    if is_outside(amount, most):
        raise Outside("below nought, or more than there can be")


def floor_of(one):
    return one[0] // one[1]


def total(some):
    so_far = NOUGHT
    for each in some:
        so_far = plus(so_far, each)
    return so_far


# The places of the fractions in their list, the least fraction's first, of equal ones the earlier place.
def ranked(some):
    # Over one bottom fractions stand as their tops do.
    bottom = 1
    for each in some:
        bottom = bottom * each[1]
    return sorted(range(len(some)), key=lambda spot: some[spot][0] * (bottom // some[spot][1]))
