"""Ratios: tuples (top, bottom) of whole numbers in lowest terms, bottom 1 or more."""

from math import gcd, lcm

from untoldgaps.errors import BadRatio


def is_whole(thing):
    """Tells whether anything is a whole number; a boolean is none."""
    return isinstance(thing, int) and not isinstance(thing, bool)


def is_ratio(thing):
    """Tells whether anything may be passed as a ratio."""
    if not isinstance(thing, tuple):
        return is_whole(thing)
    return len(thing) == 2 and is_whole(thing[0]) and is_whole(thing[1]) and thing[1] >= 1


def lowest_terms(top, bottom):
    """Returns the ratio top by bottom; bottom may be below 0."""
    common = gcd(top, bottom)
    if bottom < 0:
        common = -common
    return (top // common, bottom // common)


def ratio_of(thing):
    """Returns a ratio or a whole number as a ratio in lowest terms."""
    if not is_ratio(thing):
        raise BadRatio()
    if isinstance(thing, tuple):
        return lowest_terms(thing[0], thing[1])
    return (thing, 1)


def told_or_same(thing):
    """Returns a ratio in lowest terms, and anything else as it is."""
    return ratio_of(thing) if is_ratio(thing) else thing


def is_told(thing):
    """Tells whether anything is a ratio as it is returned: a tuple in lowest terms."""
    return isinstance(thing, tuple) and is_ratio(thing) and ratio_of(thing) == thing


def is_exactly(thing, told):
    """Tells whether anything is this whole number or this tuple of such, and of tuples of such.

    A boolean stands for no number, a list for no tuple.
    """
    if not isinstance(told, tuple):
        return is_whole(thing) and thing == told
    if not isinstance(thing, tuple) or len(thing) != len(told):
        return False
    return all([is_exactly(part, goal) for part, goal in zip(thing, told)])


def is_just(thing, told):
    """Tells whether anything is this very ratio in lowest terms; a boolean in it stands for no number."""
    return is_ratio(thing) and thing == told


def plus(one, other):
    """Returns the sum of two ratios."""
    top, bottom = ratio_of(one)
    more, part = ratio_of(other)
    return lowest_terms(top * part + more * bottom, bottom * part)


def minus(one, other):
    """Returns the first ratio less the second one."""
    top, bottom = ratio_of(one)
    less, part = ratio_of(other)
    return lowest_terms(top * part - less * bottom, bottom * part)


def times(one, other):
    """Returns the product of two ratios."""
    top, bottom = ratio_of(one)
    factor, part = ratio_of(other)
    return lowest_terms(top * factor, bottom * part)


def over(one, other):
    """Returns the first ratio divided by the second one, which is not 0."""
    top, bottom = ratio_of(one)
    divisor, part = ratio_of(other)
    if divisor == 0:
        raise BadRatio()
    return lowest_terms(top * part, bottom * divisor)


def compare(one, other):
    """Returns -1, 0 or 1 if one is less than, equal to or greater than other."""
    top, bottom = ratio_of(one)
    rival, part = ratio_of(other)
    apart = top * part - rival * bottom
    if apart == 0:
        return 0
    return -1 if apart < 0 else 1


def common_bottom(told):
    """Returns the least common bottom of ratios in lowest terms."""
    bottom = 1
    for _, part in told:
        bottom = lcm(bottom, part)
    return bottom


def without_common(wholes):
    """Returns whole numbers as a tuple, divided by their greatest common divisor."""
    common = 0
    for whole in wholes:
        common = gcd(common, whole)
        if common == 1:
            return tuple(wholes)
    if common == 0:
        return tuple(wholes)
    return tuple([whole // common for whole in wholes])


def lowest_row(numbers):
    """Returns ratios times one ratio above 0: whole numbers without a common divisor."""
    told = [ratio_of(number) for number in numbers]
    bottom = common_bottom(told)
    return without_common([top * (bottom // part) for top, part in told])
