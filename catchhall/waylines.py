"""Lines of ways: what each claim gets as the catch grows."""

from catchhall.fractions import NOUGHT, less, minus, plus, ranked, times, whole
from catchhall.lines import line_of
from catchhall.ways import HALF, contrary_way, levels_of, looked, rightly_dealt


def way_lines(way, weights, claims):
    looked(way, weights, claims)
    joints = without_doubles(joints_of(way, weights, claims))
    dealings = [rightly_dealt(way, weights, claims, joint) for joint in joints]
    return [line_at(joints, dealings, spot) for spot in range(len(claims))]


def line_at(joints, dealings, spot):
    return line_of([(joint, amounts[spot]) for joint, amounts in zip(joints, dealings)])


# The catches, ascending, between which what each claim gets grows straight: from nought to all claims.
def joints_of(way, weights, claims):
    most = whole(sum(claims))
    if way == "row":
        return row_joints(claims)
    if way == "even":
        return even_joints(weights, claims)
    if way == "part":
        return [NOUGHT, most]
    if way == "half":
        early = [times(joint, HALF) for joint in even_joints([1] * len(claims), claims)]
        return early + mirrored(early, most)
    return mirrored(joints_of(contrary_way(way), weights, claims), most)


def row_joints(claims):
    filled = 0
    joints = [NOUGHT]
    for claim in claims:
        filled += claim
        joints.append(whole(filled))
    return joints


def even_joints(weights, claims):
    filled = 0
    weight = sum(weights)
    levels = levels_of(weights, claims)
    joints = [NOUGHT]
    for spot in ranked(levels):
        joints.append(plus(whole(filled), times(levels[spot], whole(weight))))
        filled += claims[spot]
        weight -= weights[spot]
    return joints


def mirrored(joints, most):
    return [minus(most, joint) for joint in reversed(joints)]


def without_doubles(joints):
    kept = joints[:1]
    for joint in joints:
        if less(kept[-1], joint):
            kept.append(joint)
    return kept
