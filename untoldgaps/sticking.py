"""Balls that stick together: which of them end in one lot, and how fast, whatever the gaps are."""

from untoldgaps.ranks import ascending
from untoldgaps.ratios import common_bottom, compare, is_exactly, is_whole, lowest_terms, minus, over, times
from untoldgaps.rows import check_ball, check_unwalled


class Parting:
    """The lots in which balls end, from left to right, and their means."""

    def __init__(self, lots, means):
        self.lots = lots
        self.means = means

    def __eq__(self, other):
        return isinstance(other, Parting) and self.lots == other.lots and self.means == other.means


def _sums_ahead(numbers):
    """Returns the sums of the first numbers, from none of them up to all."""
    sums = [0]
    for number in numbers:
        sums.append(sums[-1] + number)
    return sums


class Weighed:
    """Ratios of the balls, one for each, by their weights: sums and means over neighbouring balls."""

    def __init__(self, weights, told):
        self.bottom = common_bottom(told)
        self.loads = _sums_ahead(weights)
        self.drives = _sums_ahead([
            weight * top * (self.bottom // part) for weight, (top, part) in zip(weights, told)
        ])

    def load(self, lot):
        """Returns the sum of the weights of a lot."""
        return self.loads[lot[1] + 1] - self.loads[lot[0]]

    def mean(self, lot):
        """Returns the mean of the ratios of a lot, by weight."""
        drive = self.drives[lot[1] + 1] - self.drives[lot[0]]
        return lowest_terms(drive, self.load(lot) * self.bottom)

    def means_of(self, lots):
        """Returns the means of some lots."""
        return tuple([self.mean(lot) for lot in lots])

    def falls(self, lot, ball):
        """Tells whether the balls of a lot up to a ball have a greater mean than the rest of it."""
        return compare(self.mean((lot[0], ball)), self.mean((ball + 1, lot[1]))) > 0


def parting_of(speeds, lots):
    """Returns the Parting of some lots of balls with weighed speeds."""
    return Parting(tuple(lots), speeds.means_of(lots))


def pooled_parting(row):
    """Returns the Parting in which the sticking run ends, whatever the gaps are."""
    check_unwalled(row)
    speeds = Weighed(row.weights, row.speeds)
    lots = []
    for ball in range(len(row)):
        lot = (ball, ball)
        while lots and compare(speeds.mean(lots[-1]), speeds.mean(lot)) > 0:
            lot = (lots.pop()[0], ball)
        lots.append(lot)
    return parting_of(speeds, lots)


def _is_lot_from(lot, first):
    """Tells whether anything is a lot of balls from a first one on."""
    if not isinstance(lot, tuple) or len(lot) != 2:
        return False
    return is_exactly(lot[0], first) and is_whole(lot[1]) and lot[1] >= first


def _are_lots(row, lots):
    """Tells whether anything is a tuple of lots, one behind the other, of all balls."""
    if not isinstance(lots, tuple):
        return False
    first = 0
    for lot in lots:
        if not _is_lot_from(lot, first):
            return False
        first = lot[1] + 1
    return first == len(row)


def parting_fault(row, parting):
    """Returns None if this is the parting of the row, else the first word that applies."""
    check_unwalled(row)
    if not _are_lots(row, parting.lots):
        return "lots"
    speeds = Weighed(row.weights, row.speeds)
    means = speeds.means_of(parting.lots)
    if not is_exactly(parting.means, means):
        return "means"
    if any([compare(one, other) > 0 for one, other in zip(means, means[1:])]):
        return "falls"
    for lot in parting.lots:
        if not all([speeds.falls(lot, ball) for ball in range(lot[0], lot[1])]):
            return "within"
    return None


def joined_with(row, ball):
    """Returns the lot in which a ball ends."""
    check_unwalled(row)
    told = check_ball(row, ball)
    return [lot for lot in pooled_parting(row).lots if lot[0] <= told <= lot[1]][0]


def lost_sum(row):
    """Returns by how much the second sum falls, whatever the gaps are."""
    parting = pooled_parting(row)
    lost = row.second_sum
    for (first, last), mean in zip(parting.lots, parting.means):
        lost = minus(lost, times(sum(row.weights[first:last + 1]), times(mean, mean)))
    return lost


def _greatest_speed(row, ball, pair):
    """Returns the greatest speed of a ball with which a pair at it or to its right never joins, None if none.

    The pair never joins if no mean of balls up to it is greater than a mean of balls behind it.
    """
    speeds = Weighed(row.weights, row.speeds[:ball] + ((0, 1),) + row.speeds[ball + 1:])
    least = ascending([speeds.mean((pair + 1, last)) for last in range(pair + 1, len(row))])[0]
    lots = [(first, pair) for first in range(pair + 1)]
    room = [times(minus(least, speeds.mean(lot)), speeds.load(lot)) for lot in lots]
    # Without the ball there is nothing to make up for a mean that is too great.
    if any([left[0] < 0 for left in room[ball + 1:]]):
        return None
    return over(ascending(room[:ball + 1])[0], row.weights[ball])


def _least_speed(row, ball, pair):
    """Returns the least speed of a ball with which a pair to its left never joins, None if none."""
    last = len(row) - 1
    seen = _greatest_speed(row.mirrored(), last - ball, last - 1 - pair)
    return None if seen is None else times(seen, -1)


def speed_bounds(row, ball):
    """Returns for each pair the speed of a ball up to which, or from which on, the pair never joins, or None."""
    check_unwalled(row)
    told = check_ball(row, ball)
    return tuple([
        _greatest_speed(row, told, pair) if pair >= told else _least_speed(row, told, pair) for pair in row.pairs
    ])
