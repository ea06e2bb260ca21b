"""Courses: the balls of a row, followed along a word."""

from untoldgaps.blends import blend_of, clash_pair, nearing_of
from untoldgaps.ratios import lowest_terms


def speed_blends(row):
    """Returns blends of the balls that hold their speeds alone."""
    return [(bottom, top) for top, bottom in row.speeds]


def start_blends(row, starts):
    """Returns blends of the balls that hold their speeds and a list of ratios for each ball."""
    return [blend_of([speed] + start) for speed, start in zip(row.speeds, starts)]


class Course:
    """The blends of the balls, and for each pair how it nears, behind the clashes so far.

    The first ratio of a nearing is the closing speed of the pair. The others are the gap that the
    pair would have had at moment 0 if it had always been nearing as it does now, where the blends
    hold for each ball the place from which it would have come then, its start. A clash changes
    starts as it changes speeds: both new lines go through the place of the clash, and the shares
    of the old speeds in a new one add up to 1 (at the wall both change their sign).
    """

    def __init__(self, row, blends):
        self.weights = row.weights
        self.pairs = row.pairs
        self.blends = list(blends)
        self.nearings = [nearing_of(self.blends, pair) for pair in self.pairs]

    def nearing(self, pair):
        """Returns the nearing of a pair."""
        return self.nearings[pair - self.pairs[0]]

    def comes(self, pair):
        """Tells whether a pair comes."""
        return self.nearing(pair)[1] > 0

    def pairs_coming(self):
        """Returns the pairs that come, ascending."""
        return tuple([pair for pair in self.pairs if self.comes(pair)])

    def speeds_now(self):
        """Returns the speeds behind the clashes so far."""
        return tuple([lowest_terms(blend[1], blend[0]) for blend in self.blends])

    def clash(self, pair):
        """Lets a pair clash, whether it comes or not."""
        clash_pair(self.weights, self.blends, pair)
        for near in (pair - 1, pair, pair + 1):
            if near in self.pairs:
                self.nearings[near - self.pairs[0]] = nearing_of(self.blends, near)
