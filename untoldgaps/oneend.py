"""One end or two: whether the gaps have a say in how a row of given weights ends."""

from untoldgaps.closedrows import is_closed, orders_of, roots_of
from untoldgaps.pushes import speeds_closing
from untoldgaps.ratios import is_exactly, is_ratio, plus
from untoldgaps.rows import Row, are_gaps
from untoldgaps.runs import Border, run_of
from untoldgaps.stretches import all_stretches


class OneEnd:
    """All rows of speeds have one end, whatever the gaps: the roots of the row tell it."""

    def __init__(self, roots):
        self.roots = roots

    def __eq__(self, other):
        return isinstance(other, OneEnd) and self.roots == other.roots


class TwoEnds:
    """Speeds for which two rows of gaps lead to unlike ends."""

    def __init__(self, index, speeds, one, other):
        self.index = index
        self.speeds = speeds
        self.one = one
        self.other = other

    def __eq__(self, other):
        return (
            isinstance(other, TwoEnds)
            and self.index == other.index
            and self.speeds == other.speeds
            and self.one == other.one
            and self.other == other.other
        )


def _torn_row(core):
    """Returns a row with two gaps, of the weights of another one, with unlike ends, and its border as (1, z).

    The closings are 1 and z. Without an order only finitely many z let both ends be alike.
    """
    z = 1
    torn = core.with_speeds(speeds_closing(core, (1, z)))
    told = all_stretches(torn)
    while told[0].speeds == told[1].speeds:
        z += 1
        torn = core.with_speeds(speeds_closing(core, (1, z)))
        told = all_stretches(torn)
    return torn, z


def _speeds_around(row, pair, torn):
    """Returns speeds of all balls with which those of a row with two gaps are left to themselves.

    No speed in a run of theirs is ever as great as the bound, whose square is more than their second
    sum. So between the calm balls to their left and the quick ones to their right they are hurried.
    """
    bound = plus(torn.second_sum, 1)
    if pair < 0:
        return torn.speeds + (bound,) * (len(row) - len(torn))
    quick = plus(bound, bound)
    inner = torn.hurried(bound).speeds
    return ((0, 1),) * pair + inner + (quick,) * (len(row) - len(torn) - pair)


def _two_ends(row, index):
    """Returns TwoEnds for a row that has no order at an index."""
    pair = row.pairs[index]
    weights = row.weights[max(pair, 0):pair + 3]
    torn, z = _torn_row(Row(weights, (0,) * len(weights), pair < 0))
    ahead = ((1, 1),) * index
    behind = ((1, 1),) * (row.gap_count - index - 2)
    one = ahead + ((1, 1), (2 * z, 1)) + behind
    other = ahead + ((2, 1), (z, 1)) + behind
    return TwoEnds(index, _speeds_around(row, pair, torn), one, other)


def decide_ends(row):
    """Returns OneEnd if all gaps lead to one end, whatever the speeds are, else TwoEnds."""
    orders = orders_of(row)
    if None in orders:
        return _two_ends(row, orders.index(None))
    return OneEnd(roots_of(row))


def _are_speeds(row, speeds):
    """Tells whether anything is a list or tuple of one ratio for each ball."""
    if not isinstance(speeds, (list, tuple)) or len(speeds) != len(row):
        return False
    return all([is_ratio(speed) for speed in speeds])


def _torn_fault(row, result):
    """Returns what is wrong with two ends."""
    orders = orders_of(row)
    if None not in orders or not is_exactly(result.index, orders.index(None)):
        return "index"
    if not _are_speeds(row, result.speeds):
        return "speeds"
    if not are_gaps(row, result.one) or not are_gaps(row, result.other):
        return "gaps"
    moving = row.with_speeds(result.speeds)
    runs = [run_of(moving, result.one), run_of(moving, result.other)]
    if any([isinstance(run, Border) for run in runs]):
        return "border"
    return "ends" if runs[0].speeds == runs[1].speeds else None


def ends_fault(row, result):
    """Returns None if a result tells rightly how a row ends, else the first word that applies."""
    if isinstance(result, OneEnd):
        is_right = is_closed(row) and is_exactly(result.roots, roots_of(row))
        return None if is_right else "roots"
    if isinstance(result, TwoEnds):
        return _torn_fault(row, result)
    return "kind"
