"""Like balls: they exchange their speeds, so the lines that the speeds draw go on through every clash."""

from untoldgaps.blends import blend_of
from untoldgaps.errors import Unlike
from untoldgaps.ranks import ascending
from untoldgaps.ratios import lowest_terms, plus
from untoldgaps.rows import check_ball, check_gaps, check_moment


def check_like(row):
    """Raises Unlike unless all weights are equal."""
    if not row.is_like:
        raise Unlike()


def _sizes_of(row):
    """Returns the speeds of the lines behind all clashes: behind a wall without their signs."""
    if not row.wall:
        return list(row.speeds)
    return [(abs(top), bottom) for top, bottom in row.speeds]


def like_end(row):
    """Returns the speeds behind all clashes, whatever the gaps are."""
    check_like(row)
    return tuple(ascending(_sizes_of(row)))


def like_counts(row):
    """Returns how many clashes with the wall and how many of two balls come, whatever the gaps are."""
    check_like(row)
    speeds = blend_of(row.speeds)[1:]
    couples = [(one, other) for at, one in enumerate(speeds) for other in speeds[at + 1:]]
    passes = len([1 for one, other in couples if one > other])
    if not row.wall:
        return (0, passes)
    backs = len([1 for one, other in couples if one + other < 0])
    return (len([1 for speed in speeds if speed < 0]), passes + backs)


class Lines:
    """The lines of like balls with known gaps: whole speeds and begins, all over one bottom.

    A line goes on straight behind the wall; the ball stands then as far before the wall, which is 0.
    """

    def __init__(self, row, gaps):
        place = (0, 1)
        starts = [] if row.wall else [place]
        for gap in gaps:
            place = plus(place, gap)
            starts.append(place)
        blend = blend_of(list(row.speeds) + starts)
        self.wall = row.wall
        self.pairs = row.pairs
        self.bottom = blend[0]
        self.speeds = blend[1:len(row) + 1]
        self.starts = blend[len(row) + 1:]

    def standing(self, moment):
        """Returns (place, speed, line) for the balls from left to right, behind all clashes of a moment.

        The places are times the bottoms of the lines and of the moment, the speeds times that of the lines.
        """
        time, part = moment
        standing = []
        for line, (start, speed) in enumerate(zip(self.starts, self.speeds)):
            place = start * part + speed * time
            if self.wall and place <= 0:
                standing.append((-place, -speed, line))
            else:
                standing.append((place, speed, line))
        return sorted(standing)

    def pairs_met(self, moment):
        """Returns the pairs whose gap is 0 at a moment, ascending."""
        places = [place for place, _, _ in self.standing(moment)]
        if self.wall:
            places = [0] + places
        gone = [one == other for one, other in zip(places, places[1:])]
        return tuple([pair for pair, is_gone in zip(self.pairs, gone) if is_gone])

    def moments_met(self):
        """Returns all moments at which two lines, or a line and the wall, are at one place, each once."""
        met = {}
        for line, (start, speed) in enumerate(zip(self.starts, self.speeds)):
            if self.wall and speed < 0:
                met[lowest_terms(start, -speed)] = True
            for place, pace in zip(self.starts[line + 1:], self.speeds[line + 1:]):
                if speed > pace:
                    met[lowest_terms(place - start, speed - pace)] = True
                if self.wall and speed + pace < 0:
                    met[lowest_terms(place + start, -speed - pace)] = True
        return ascending(list(met))


def like_standing(row, gaps, moment):
    """Returns the places and the speeds of the balls at a moment, behind all its clashes."""
    check_like(row)
    lines = Lines(row, check_gaps(row, gaps))
    when = check_moment(moment)
    standing = lines.standing(when)
    bottom = lines.bottom
    places = [lowest_terms(place, bottom * when[1]) for place, _, _ in standing]
    return (tuple(places), tuple([lowest_terms(speed, bottom) for _, speed, _ in standing]))


def _followed_lines(lines, moment):
    """Returns the lines that the balls follow behind all clashes of a moment."""
    return [line for _, _, line in lines.standing(moment)]


def line_of(row, gaps, ball, moment):
    """Returns the line that a ball follows behind all clashes of a moment."""
    check_like(row)
    lines = Lines(row, check_gaps(row, gaps))
    told = check_ball(row, ball)
    return _followed_lines(lines, check_moment(moment))[told]


def ball_of(row, gaps, line, moment):
    """Returns the ball that follows a line behind all clashes of a moment."""
    check_like(row)
    lines = Lines(row, check_gaps(row, gaps))
    told = check_ball(row, line)
    return _followed_lines(lines, check_moment(moment)).index(told)


def like_moments(row, gaps):
    """Returns (moment, pairs) for all moments at which some gap is 0, with the pairs whose gap it is."""
    check_like(row)
    lines = Lines(row, check_gaps(row, gaps))
    return tuple([(moment, lines.pairs_met(moment)) for moment in lines.moments_met()])
