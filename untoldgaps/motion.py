"""Motions: a row with known gaps, clash by clash."""

from untoldgaps.courses import Course, start_blends
from untoldgaps.ratios import lowest_terms, plus


def first_places(row, gaps):
    """Returns the places of the balls at the begin: the wall or ball 0 stands at 0."""
    places = [] if row.wall else [(0, 1)]
    place = (0, 1)
    for gap in gaps:
        place = plus(place, gap)
        places.append(place)
    return places


class Motion:
    """The balls of a row behind the clashes so far, the pairs of these and their moments."""

    def __init__(self, row, gaps):
        starts = [[place] for place in first_places(row, gaps)]
        self.course = Course(row, start_blends(row, starts))
        self.struck = []
        self.moments = []

    def pairs_due(self):
        """Returns the pairs that come to gap 0 next, all at one moment, ascending."""
        due = []
        first = None
        for pair in self.course.pairs:
            nearing = self.course.nearing(pair)
            if nearing[1] <= 0:
                continue
            # The moments are gap by closing speed; multiplied across they compare as whole numbers.
            later = 0 if first is None else nearing[2] * first[1] - first[2] * nearing[1]
            if later > 0:
                continue
            if later < 0:
                due.clear()
            first = nearing
            due.append(pair)
        return due

    def moment_of(self, pair):
        """Returns the moment at which a pair that comes has gap 0."""
        _, closing, gap = self.course.nearing(pair)
        return lowest_terms(gap, closing)

    def last_moment(self):
        """Returns the moment of the last clash, 0 if there is none."""
        return self.moments[-1] if self.moments else (0, 1)

    def clash(self, pair, moment):
        """Lets a pair clash at its moment."""
        self.course.clash(pair)
        self.struck.append(pair)
        self.moments.append(moment)

    def speeds_now(self):
        """Returns the speeds behind the last clash."""
        return tuple([lowest_terms(speed, bottom) for bottom, speed, _ in self.course.blends])

    def places_then(self, moment):
        """Returns the places at a moment between the last clash and the next one."""
        time, part = moment
        return tuple([
            lowest_terms(start * part + speed * time, bottom * part)
            for bottom, speed, start in self.course.blends
        ])

    def gaps_then(self, moment):
        """Returns the gaps at a moment between the last clash and the next one."""
        time, part = moment
        return tuple([
            lowest_terms(gap * part - closing * time, bottom * part)
            for bottom, closing, gap in self.course.nearings
        ])
