"""Ranges: between which bounds two moments, or two gaps, stand to one another in what was heard."""

from untoldgaps.cones import unit_rows
from untoldgaps.facts import check_couple, check_facts, check_numbers
from untoldgaps.forms import value_of
from untoldgaps.heard import fitting_tales
from untoldgaps.ranks import ascending
from untoldgaps.ratios import over
from untoldgaps.rows import check_narrow


def _range_of(corners, late, soon):
    """Returns the bounds of the first form divided by the second one over the gaps inside a cone.

    Inside it the quotient is a mean of those at the corners, by the second form, which is never below 0.
    """
    values = [(value_of(late, corner), value_of(soon, corner)) for corner in corners]
    shares = ascending([over(top, bottom) for top, bottom in values if bottom != (0, 1)])
    is_endless = any([bottom == (0, 1) and top != (0, 1) for top, bottom in values])
    return (shares[0], None if is_endless else shares[-1])


def moment_ranges(row, facts, i, j, *, most=400):
    """Returns (word, low, high) with the bounds of moment j divided by moment i, for each word that fits."""
    check_narrow(row)
    told = check_facts(row, facts)
    check_numbers(i, j)
    return tuple([
        (tale.word,) + _range_of(corners, tale.moments[j - 1], tale.moments[i - 1])
        for tale, corners in fitting_tales(row, told, most)
        if len(tale.word) >= j
    ])


def gap_ranges(row, facts, one, other, *, most=400):
    """Returns (word, low, high) with the bounds of the gap of a pair divided by another, for each word that fits."""
    check_narrow(row)
    told = check_facts(row, facts)
    check_couple(row, one, other)
    units = unit_rows(row.gap_count)
    first = row.pairs[0]
    return tuple([
        (tale.word,) + _range_of(corners, units[one - first], units[other - first])
        for tale, corners in fitting_tales(row, told, most)
    ])
