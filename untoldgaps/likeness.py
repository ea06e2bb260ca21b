"""Kin: rows that differ in the units of their weights and speeds alone."""

from untoldgaps.ratios import compare, lowest_row, minus, over, times, without_common
from untoldgaps.rows import Row


class Kin:
    """How one row leads to another: factor for the weights, pace and more for the speeds."""

    def __init__(self, factor, pace, more):
        self.factor = factor
        self.pace = pace
        self.more = more

    def __eq__(self, other):
        return (
            isinstance(other, Kin)
            and self.factor == other.factor
            and self.pace == other.pace
            and self.more == other.more
        )


def _drifts(row):
    """Returns the speeds as the wall sees them, or ball 0 where no wall stands."""
    base = 0 if row.wall else row.speeds[0]
    return [minus(speed, base) for speed in row.speeds]


def least_row(row):
    """Returns the row with the least whole weights and speeds that has the same clashes."""
    return Row(without_common(row.weights), lowest_row(_drifts(row)), row.wall)


def are_kin(one, other):
    """Tells whether two rows have equal least rows."""
    return least_row(one) == least_row(other)


def _pace_of(one, other):
    """Returns by which ratio the speeds of other differ more than those of one; both are kin."""
    for drift, goal in zip(_drifts(one), _drifts(other)):
        if drift[0] != 0:
            return over(goal, drift)
    return (1, 1)


def kin_of(one, other):
    """Returns the Kin that leads from one row to the other, or None if they are no kin."""
    if not are_kin(one, other):
        return None
    factor = over(other.weights[0], one.weights[0])
    pace = _pace_of(one, other)
    more = (0, 1) if one.wall else minus(other.speeds[0], times(one.speeds[0], pace))
    return Kin(factor, pace, more)


def lead_along(kin, row):
    """Returns the row to which a Kin leads from a row."""
    led = row.heavier(kin.factor).quicker(kin.pace)
    if compare(kin.more, 0) == 0:
        return led
    return led.hurried(kin.more)
