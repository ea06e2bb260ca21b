"""Rows of balls, and the checks of what is passed with a row."""

from untoldgaps.errors import BadGaps, BadMoment, BadRow, NoBall, NoHurry, NoMirror, NoWall, Wide
from untoldgaps.ratios import is_ratio, is_whole, plus, ratio_of, times

MOST_BALLS = 40
MOST_WEIGHT = 9
_WIDEST = 3


def _check_balls(weights, speeds, wall):
    """Raises BadRow with the first thing for which a row is refused."""
    if wall is not True and wall is not False:
        raise BadRow(0, "wall")
    fewest = 1 if wall else 2
    if not isinstance(weights, (list, tuple)) or not fewest <= len(weights) <= MOST_BALLS:
        raise BadRow(0, "many")
    if not isinstance(speeds, (list, tuple)) or len(speeds) != len(weights):
        raise BadRow(0, "length")
    for ball, weight in enumerate(weights):
        if not is_whole(weight) or not 1 <= weight <= MOST_WEIGHT:
            raise BadRow(ball, "weight")
        if not is_ratio(speeds[ball]):
            raise BadRow(ball, "speed")


def _sum_of(numbers):
    """Returns the sum of ratios."""
    total = (0, 1)
    for number in numbers:
        total = plus(total, number)
    return total


class Row:
    """Balls from left to right with weights and speeds, maybe with a wall to the left of them."""

    def __init__(self, weights, speeds, wall=False):
        _check_balls(weights, speeds, wall)
        self.weights = tuple(weights)
        self.speeds = tuple([ratio_of(speed) for speed in speeds])
        self.wall = wall
        self.pairs = tuple(range(-1 if wall else 0, len(self.weights) - 1))
        self.gap_count = len(self.pairs)
        self.is_like = self.weights.count(self.weights[0]) == len(self.weights)
        drives = [times(weight, speed) for weight, speed in zip(self.weights, self.speeds)]
        self.first_sum = _sum_of(drives)
        self.second_sum = _sum_of([times(drive, speed) for drive, speed in zip(drives, self.speeds)])

    def __len__(self):
        return len(self.weights)

    def __eq__(self, other):
        return (
            isinstance(other, Row)
            and self.weights == other.weights
            and self.speeds == other.speeds
            and self.wall == other.wall
        )

    def with_speeds(self, speeds):
        """Returns a row with the same weights and wall and other speeds."""
        return Row(self.weights, speeds, self.wall)

    def turned(self):
        """Returns the row with each speed times -1."""
        return self.quicker(-1)

    def quicker(self, factor):
        """Returns the row with each speed times a ratio."""
        told = ratio_of(factor)
        return self.with_speeds([times(speed, told) for speed in self.speeds])

    def mirrored(self):
        """Returns the row as it is seen from the other side."""
        if self.wall:
            raise NoMirror()
        return Row(self.weights[::-1], [times(speed, -1) for speed in self.speeds[::-1]])

    def hurried(self, more):
        """Returns the row with each speed increased by a ratio."""
        if self.wall:
            raise NoHurry()
        told = ratio_of(more)
        return self.with_speeds([plus(speed, told) for speed in self.speeds])

    def heavier(self, factor):
        """Returns the row with each weight times a ratio."""
        told = ratio_of(factor)
        weights = []
        for ball, weight in enumerate(self.weights):
            top, bottom = times(weight, told)
            if bottom != 1 or not 1 <= top <= MOST_WEIGHT:
                raise BadRow(ball, "weight")
            weights.append(top)
        return Row(weights, self.speeds, self.wall)


def check_gaps(row, gaps):
    """Returns the gaps of a row as a tuple of ratios, or raises BadGaps."""
    if not isinstance(gaps, (list, tuple)) or len(gaps) != row.gap_count:
        raise BadGaps("length")
    return told_gaps(gaps)


def are_gaps(row, gaps):
    """Tells whether anything may be passed as the gaps of a row."""
    try:
        check_gaps(row, gaps)
    except BadGaps:
        return False
    return True


def told_gaps(gaps):
    """Returns any number of gaps as a tuple of ratios, or raises BadGaps."""
    told = []
    for gap in gaps:
        if not is_ratio(gap) or ratio_of(gap)[0] <= 0:
            raise BadGaps("gap")
        told.append(ratio_of(gap))
    return tuple(told)


def check_moment(moment):
    """Returns a moment, a ratio of 0 or more, or raises BadMoment."""
    if not is_ratio(moment) or ratio_of(moment)[0] < 0:
        raise BadMoment(moment)
    return ratio_of(moment)


def check_ball(row, ball):
    """Returns the number of a ball of the row, or raises NoBall."""
    if not is_whole(ball) or not 0 <= ball < len(row):
        raise NoBall(ball)
    return ball


def check_narrow(row):
    """Raises Wide if the row has more than three gaps."""
    if row.gap_count > _WIDEST:
        raise Wide()


def check_unwalled(row):
    """Raises NoWall if the row has a wall."""
    if row.wall:
        raise NoWall()
