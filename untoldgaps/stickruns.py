"""Sticking runs with known gaps, and the moments at which pairs join as least values of forms."""

from untoldgaps.clashing import check_pair
from untoldgaps.motion import first_places
from untoldgaps.ranks import ascending
from untoldgaps.ratios import compare, lowest_terms, minus, over, plus, times
from untoldgaps.rows import check_gaps, check_moment, check_unwalled
from untoldgaps.sticking import Weighed, parting_of


class Sticking:
    """The moments at which lots come to be, with these lots, and the Parting of the end."""

    def __init__(self, joinings, parting):
        self.joinings = joinings
        self.parting = parting


class Drift:
    """The lots of a sticking run behind the joinings so far.

    A lot goes on as the middle by weight of its balls would if each of them had kept its own speed.
    """

    def __init__(self, row, gaps):
        self.speeds = Weighed(row.weights, row.speeds)
        self.starts = Weighed(row.weights, first_places(row, gaps))
        self.lots = [(ball, ball) for ball in range(len(row))]
        self.joinings = []

    def _moment_of(self, one, other):
        """Returns the moment at which two neighbouring lots come together, None if they never do."""
        closing = minus(self.speeds.mean(one), self.speeds.mean(other))
        if closing[0] <= 0:
            return None
        return over(minus(self.starts.mean(other), self.starts.mean(one)), closing)

    def moments_due(self):
        """Returns for each two neighbouring lots the moment at which they come together, or None."""
        return [self._moment_of(one, other) for one, other in zip(self.lots, self.lots[1:])]

    def join_at(self, moment, due):
        """Lets all neighbouring lots join that come together at this moment."""
        lots = self.lots[:1]
        for lot, arrival in zip(self.lots[1:], due):
            if arrival == moment:
                lots[-1] = (lots[-1][0], lot[1])
            else:
                lots.append(lot)
        self.joinings.append((moment, tuple([lot for lot in lots if lot not in self.lots])))
        self.lots = lots

    def follow(self, until):
        """Lets all lots join that come together at a moment or ahead of it, or ever if it is None."""
        due = self.moments_due()
        told = ascending([moment for moment in due if moment is not None])
        while told and (until is None or compare(told[0], until) <= 0):
            self.join_at(told[0], due)
            due = self.moments_due()
            told = ascending([moment for moment in due if moment is not None])

    def standing(self, moment):
        """Returns the places and speeds of all balls at a moment between the last joining and the next one."""
        places = []
        speeds = []
        for lot in self.lots:
            speed = self.speeds.mean(lot)
            place = plus(self.starts.mean(lot), times(speed, moment))
            for _ in range(lot[0], lot[1] + 1):
                places.append(place)
                speeds.append(speed)
        return (tuple(places), tuple(speeds))


def stick_run(row, gaps):
    """Returns the Sticking of a row with known gaps."""
    check_unwalled(row)
    drift = Drift(row, check_gaps(row, gaps))
    drift.follow(None)
    return Sticking(tuple(drift.joinings), parting_of(drift.speeds, drift.lots))


def join_moments(row, gaps):
    """Returns for each pair the moment at which it joins, or None."""
    moments = {}
    for moment, lots in stick_run(row, gaps).joinings:
        for first, last in lots:
            for pair in range(first, last):
                moments.setdefault(pair, moment)
    return tuple([moments.get(pair) for pair in row.pairs])


def stick_standing(row, gaps, moment):
    """Returns the places and the speeds of all balls at a moment, behind its joinings."""
    check_unwalled(row)
    told = check_gaps(row, gaps)
    when = check_moment(moment)
    drift = Drift(row, told)
    drift.follow(when)
    return drift.standing(when)


def _share_of_gap(speeds, lot, pair, gap):
    """Returns how much a gap of a lot parts the middle of the balls up to a pair from that of the rest."""
    first, last = lot
    if gap <= pair:
        return lowest_terms(speeds.load((first, gap)), speeds.load((first, pair)))
    return lowest_terms(speeds.load((gap + 1, last)), speeds.load((pair + 1, last)))


def lot_form(speeds, lot, pair, count):
    """Returns the form over so many gaps of the moment at which the two parts of a lot come together.

    The parts are the balls up to a pair and those behind it, and the first ones have a greater mean.
    """
    first, last = lot
    closing = minus(speeds.mean((first, pair)), speeds.mean((pair + 1, last)))
    shares = [over(_share_of_gap(speeds, lot, pair, gap), closing) for gap in range(first, last)]
    return ((0, 1),) * first + tuple(shares) + ((0, 1),) * (count - last)


def join_forms(row, pair):
    """Returns (lot, form) for all lots within which a pair may join; it joins at the least value of the forms."""
    check_unwalled(row)
    told = check_pair(row, pair)
    speeds = Weighed(row.weights, row.speeds)
    lots = [(first, last) for first in range(told + 1) for last in range(told + 1, len(row))]
    return tuple([(lot, lot_form(speeds, lot, told, row.gap_count)) for lot in lots if speeds.falls(lot, told)])
