"""Stretches: two gaps, of which the ratio alone tells how the run goes."""

from untoldgaps.courses import Course, speed_blends
from untoldgaps.errors import TwoGaps
from untoldgaps.ratios import compare, is_exactly, is_told, lowest_terms, over
from untoldgaps.rows import check_gaps
from untoldgaps.runs import Border, next_clash


class Stretch:
    """All ratios between two numbers, and the word and the end speeds of the runs with such a ratio."""

    def __init__(self, low, high, word, speeds):
        self.low = low
        self.high = high
        self.word = word
        self.speeds = speeds

    def __eq__(self, other):
        return (
            isinstance(other, Stretch)
            and self.low == other.low
            and self.high == other.high
            and self.word == other.word
            and self.speeds == other.speeds
        )


def closings_of(row):
    """Returns the closings of a row in the order of its pairs."""
    nearings = Course(row, speed_blends(row)).nearings
    return tuple([lowest_terms(nearing[1], nearing[0]) for nearing in nearings])


def check_two_gaps(row):
    """Raises TwoGaps unless the row has two gaps."""
    if row.gap_count != 2:
        raise TwoGaps()


def other_pair(row, pair):
    """Returns the other pair of a row with two gaps."""
    return row.pairs[0] if pair == row.pairs[1] else row.pairs[1]


def run_in_turn(row, first):
    """Returns the word and the end speeds of the runs with two gaps that begin with a pair, if it comes."""
    course = Course(row, speed_blends(row))
    word = []
    pair = first
    while course.comes(pair):
        course.clash(pair)
        word.append(pair)
        pair = other_pair(row, pair)
    return (tuple(word), course.speeds_now())


def border_ratios(row):
    """Returns the ratio of gaps at which both pairs come to gap 0 together, () if not both come."""
    check_two_gaps(row)
    one, other = closings_of(row)
    if one[0] > 0 and other[0] > 0:
        return (over(one, other),)
    return ()


def _stretch_from(row, low, high, first):
    """Returns the stretch in which the runs begin with a pair, if it comes."""
    word, speeds = run_in_turn(row, first)
    return Stretch(low, high, word, speeds)


def all_stretches(row):
    """Returns the stretches of the ratio of gaps, ascending."""
    borders = border_ratios(row)
    one, other = row.pairs
    if borders:
        border = borders[0]
        return (_stretch_from(row, (0, 1), border, one), _stretch_from(row, border, None, other))
    first = one if closings_of(row)[0][0] > 0 else other
    return (_stretch_from(row, (0, 1), None, first),)


def stretch_of(row, gaps):
    """Returns the index of the stretch in which the ratio of the gaps lies, or the Border of the run."""
    check_two_gaps(row)
    event = next_clash(row, check_gaps(row, gaps))
    if isinstance(event, Border):
        return event
    is_second = len(border_ratios(row)) > 0 and event[1] == row.pairs[1]
    return 1 if is_second else 0


def _is_ordered(stretch, is_last):
    """Tells whether the low and the high of anything are those of a stretch."""
    if not isinstance(stretch, Stretch) or not is_told(stretch.low) or stretch.low[0] < 0:
        return False
    if stretch.high is None:
        return is_last
    return is_told(stretch.high) and compare(stretch.low, stretch.high) < 0


def _are_ordered(stretches):
    """Tells whether anything is a list or tuple of stretches with a low and a high."""
    if not isinstance(stretches, (list, tuple)) or len(stretches) == 0:
        return False
    last = len(stretches) - 1
    return all([_is_ordered(stretch, at == last) for at, stretch in enumerate(stretches)])


def _are_joined(stretches):
    """Tells whether stretches leave nothing out from 0 on."""
    if stretches[0].low != (0, 1) or stretches[-1].high is not None:
        return False
    return all([stretch.high == after.low for stretch, after in zip(stretches, stretches[1:])])


def stretches_fault(row, stretches):
    """Returns None if these are the stretches of the row, else the first word that applies."""
    goals = all_stretches(row)
    borders = border_ratios(row)
    if not _are_ordered(stretches):
        return "order"
    if not _are_joined(stretches):
        return "hole"
    if any([stretch.high not in borders for stretch in stretches[:-1]]):
        return "border"
    # What is left has as many stretches as there are, or is one stretch over the border ratio.
    if len(stretches) != len(goals):
        return "word"
    if not all([is_exactly(stretch.word, goal.word) for stretch, goal in zip(stretches, goals)]):
        return "word"
    if not all([is_exactly(stretch.speeds, goal.speeds) for stretch, goal in zip(stretches, goals)]):
        return "speeds"
    return None
