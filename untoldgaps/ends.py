"""Ends: the speeds and the numbers of clashes with which the runs of a row can end."""

from untoldgaps.claims import check_claim
from untoldgaps.ranks import rank_of, rows_ascending, scale_of
from untoldgaps.rows import check_ball, check_narrow
from untoldgaps.verdicts import holds_in
from untoldgaps.wedges import all_wedges


class Extremes:
    """The least and the greatest end speed of a ball, and gaps for either."""

    def __init__(self, least, least_gaps, greatest, greatest_gaps):
        self.least = least
        self.least_gaps = least_gaps
        self.greatest = greatest
        self.greatest_gaps = greatest_gaps

    def __eq__(self, other):
        return (
            isinstance(other, Extremes)
            and self.least == other.least
            and self.least_gaps == other.least_gaps
            and self.greatest == other.greatest
            and self.greatest_gaps == other.greatest_gaps
        )


def _ends_of(wedges):
    """Returns the rows of end speeds of some wedges, each once, ascending."""
    met = {wedge.speeds: True for wedge in wedges}
    return tuple(rows_ascending(list(met)))


def all_ends(row, *, most=400):
    """Returns the rows of speeds with which the row can end, ascending."""
    return _ends_of(all_wedges(row, most=most))


def ends_with(row, claim, *, most=400):
    """Returns the rows of speeds with which the row can end where a claim holds, ascending."""
    check_narrow(row)
    told = check_claim(row, claim)
    return _ends_of([wedge for wedge in all_wedges(row, most=most) if holds_in(told, wedge)])


def speed_extremes(row, ball, *, most=400):
    """Returns the least and the greatest speed that a ball can have at the end."""
    check_narrow(row)
    told = check_ball(row, ball)
    wedges = all_wedges(row, most=most)
    scale = scale_of([wedge.speeds[told] for wedge in wedges])
    slowest = min(wedges, key=lambda wedge: rank_of(wedge.speeds[told], scale))
    quickest = max(wedges, key=lambda wedge: rank_of(wedge.speeds[told], scale))
    return Extremes(slowest.speeds[told], slowest.gaps, quickest.speeds[told], quickest.gaps)


def fewest_clashes(row, *, most=400):
    """Returns the least number of clashes, and gaps with so many."""
    wedge = min(all_wedges(row, most=most), key=lambda each: len(each.word))
    return (len(wedge.word), wedge.gaps)


def most_clashes(row, *, most=400):
    """Returns the greatest number of clashes, and gaps with so many."""
    wedge = max(all_wedges(row, most=most), key=lambda each: len(each.word))
    return (len(wedge.word), wedge.gaps)
