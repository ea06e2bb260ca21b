"""Blends: several ratios over one bottom, as whole numbers (bottom, top, top, ..).

Each ball of a row has a blend. Its first ratio is the speed of the ball; what the others are is up
to the caller, as long as a clash changes them as it changes speeds. One bottom for all of them
spares most divisors that ratios one by one would have to look for.
"""

from math import lcm

from untoldgaps.ratios import common_bottom, lowest_terms, without_common


def blend_of(told):
    """Returns the blend of ratios in lowest terms."""
    bottom = common_bottom(told)
    return tuple([bottom] + [top * (bottom // part) for top, part in told])


def ratios_in(blend):
    """Returns the ratios of a blend."""
    return tuple([lowest_terms(top, blend[0]) for top in blend[1:]])


def joined(one, other):
    """Returns the sum of the products of the ratios of two blends, place by place."""
    total = sum([top * more for top, more in zip(one[1:], other[1:])])
    return lowest_terms(total, one[0] * other[0])


def _mixed(one, other, here, there):
    """Returns here times one plus there times other, divided by here plus there."""
    bottom = lcm(one[0], other[0])
    first = here * (bottom // one[0])
    second = there * (bottom // other[0])
    tops = [first * top + second * more for top, more in zip(one[1:], other[1:])]
    return without_common([bottom * (here + there)] + tops)


def clash_pair(weights, blends, pair):
    """Changes a list of blends as a clash of the pair changes speeds."""
    if pair < 0:
        blends[0] = tuple([blends[0][0]] + [-top for top in blends[0][1:]])
        return
    left = weights[pair]
    right = weights[pair + 1]
    one = blends[pair]
    other = blends[pair + 1]
    if left == right:
        blends[pair] = other
        blends[pair + 1] = one
        return
    blends[pair] = _mixed(one, other, left - right, 2 * right)
    blends[pair + 1] = _mixed(other, one, right - left, 2 * left)


def nearing_of(blends, pair):
    """Returns a blend of a pair: left less right for the first ratio, right less left for the others."""
    if pair < 0:
        return tuple([blends[0][0], -blends[0][1]] + list(blends[0][2:]))
    left = blends[pair]
    right = blends[pair + 1]
    bottom = lcm(left[0], right[0])
    one = bottom // left[0]
    other = bottom // right[0]
    tops = [top * other - less * one for less, top in zip(left[2:], right[2:])]
    return tuple([bottom, left[1] * one - right[1] * other] + tops)
