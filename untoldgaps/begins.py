"""Begins: how like balls began that stand somewhere now, and with which gaps a pair clashes least often."""

from untoldgaps.blends import blend_of
from untoldgaps.clashing import check_pair
from untoldgaps.errors import BadStanding
from untoldgaps.likeballs import check_like
from untoldgaps.ratios import compare, is_ratio, minus, ratio_of, times, told_or_same
from untoldgaps.rows import MOST_BALLS, check_moment, check_unwalled


class Begin:
    """The place at which ball 0 began, the first gaps and the first speeds."""

    def __init__(self, place, gaps, speeds):
        self.place = told_or_same(place)
        self.gaps = tuple([told_or_same(gap) for gap in gaps])
        self.speeds = tuple([told_or_same(speed) for speed in speeds])

    def __eq__(self, other):
        return (
            isinstance(other, Begin)
            and self.place == other.place
            and self.gaps == other.gaps
            and self.speeds == other.speeds
        )


class Fewest:
    """The least number of clashes of a pair, and gaps with so many."""

    def __init__(self, many, gaps):
        self.many = many
        self.gaps = gaps

    def __eq__(self, other):
        return isinstance(other, Fewest) and self.many == other.many and self.gaps == other.gaps


def _check_numbers(places, speeds, wall):
    """Raises BadStanding unless these are places and speeds of balls."""
    if wall is not True and wall is not False:
        raise BadStanding("wall")
    fewest = 1 if wall else 2
    if not isinstance(places, (list, tuple)) or not fewest <= len(places) <= MOST_BALLS:
        raise BadStanding("length")
    if not isinstance(speeds, (list, tuple)) or len(speeds) != len(places):
        raise BadStanding("length")
    for place, speed in zip(places, speeds):
        if not is_ratio(place) or (wall and compare(place, 0) < 0):
            raise BadStanding("place")
        if not is_ratio(speed):
            raise BadStanding("speed")


def _check_order(places, speeds, wall):
    """Raises BadStanding unless balls may stand so behind the clashes of a moment."""
    for ball in range(len(places) - 1):
        side = compare(places[ball], places[ball + 1])
        if side > 0 or (side == 0 and compare(speeds[ball], speeds[ball + 1]) >= 0):
            raise BadStanding("order")
    if wall and places[0] == (0, 1) and speeds[0][0] <= 0:
        raise BadStanding("order")


def _line_back(place, speed, moment, wall):
    """Returns the begin and the first speed of the line on which a ball stands at a moment."""
    start = minus(place, times(speed, moment))
    if wall and start[0] < 0:
        return (times(start, -1), times(speed, -1))
    return (start, speed)


def begin_of(places, speeds, moment, wall=False):
    """Returns the Begin of like balls that stand so behind the clashes of a moment, None if a gap would be 0."""
    _check_numbers(places, speeds, wall)
    told = [ratio_of(place) for place in places]
    paces = [ratio_of(speed) for speed in speeds]
    _check_order(told, paces, wall)
    when = check_moment(moment)
    lines = [_line_back(place, pace, when, wall) for place, pace in zip(told, paces)]
    ranks = blend_of([start for start, _ in lines])[1:]
    order = sorted(range(len(lines)), key=lambda ball: ranks[ball])
    starts = [lines[ball][0] for ball in order]
    ahead = [(0, 1)] + starts if wall else starts
    gaps = [minus(late, soon) for soon, late in zip(ahead, ahead[1:])]
    if (0, 1) in gaps:
        return None
    return Begin(starts[0], gaps, [lines[ball][1] for ball in order])


def _crossed_starts(starts, speeds, pace):
    """Returns the whole begins from which a line of this speed meets two of the first lines at one place."""
    crossed = {}
    for line, start in enumerate(starts):
        for other in range(line):
            closing = speeds[other] - speeds[line]
            reach = (speeds[line] - pace) * (start - starts[other])
            if closing > 0 and reach % closing == 0:
                crossed[start + reach // closing] = True
    return crossed


def _gaps_apart(speeds, pair):
    """Returns gaps at which the lines on either side of a pair have all met before any meets one beyond it.

    No three lines meet at one place with these gaps.
    """
    count = len(speeds)
    # No gap within a side is greater than count squared, and whole speeds that are unlike differ by 1
    # or more: so within a side all is over before the time count to the third.
    far = (max(speeds) - min(speeds)) * count ** 3 + 1
    starts = [0]
    gaps = []
    for line in range(1, count):
        crossed = _crossed_starts(starts, speeds, speeds[line])
        start = starts[-1] + (far if line == pair + 1 else 1)
        while start in crossed:
            start += 1
        gaps.append((start - starts[-1], 1))
        starts.append(start)
    return tuple(gaps)


def fewest_of_pair(row, pair):
    """Returns the least number of clashes of a pair, and gaps with so many.

    Where either side is in order of its speeds before the sides meet, lines pass from the left to the
    right of the pair alone: each one once that ends to the right.
    """
    check_like(row)
    check_unwalled(row)
    told = check_pair(row, pair)
    speeds = blend_of(row.speeds)[1:]
    order = sorted([(speed, line) for line, speed in enumerate(speeds)])
    many = len([1 for _, line in order[told + 1:] if line <= told])
    return Fewest(many, _gaps_apart(speeds, told))
