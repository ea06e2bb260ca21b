"""Runs: all clashes of a row with known gaps."""

from untoldgaps.errors import Long
from untoldgaps.motion import Motion
from untoldgaps.ratios import compare, is_just, is_whole, told_or_same
from untoldgaps.rows import check_gaps

MOST_CLASHES = 800


class Border:
    """A moment at which pairs that share a ball come to gap 0 together: here a run ends."""

    def __init__(self, moment, pairs, word):
        self.moment = told_or_same(moment)
        self.pairs = tuple(pairs)
        self.word = tuple(word)

    def __eq__(self, other):
        return (
            isinstance(other, Border)
            and self.moment == other.moment
            and self.pairs == other.pairs
            and self.word == other.word
        )


class Run:
    """All clashes of a run with their moments, and the speeds and gaps at the last clash."""

    def __init__(self, word, moments, speeds, gaps):
        self.word = tuple(word)
        self.moments = tuple([told_or_same(moment) for moment in moments])
        self.speeds = tuple([told_or_same(speed) for speed in speeds])
        self.gaps = tuple([told_or_same(gap) for gap in gaps])

    def __len__(self):
        return len(self.word)

    def __iter__(self):
        return iter(self.word)

    def __eq__(self, other):
        return (
            isinstance(other, Run)
            and self.word == other.word
            and self.moments == other.moments
            and self.speeds == other.speeds
            and self.gaps == other.gaps
        )


def _event_of(motion):
    """Returns what comes next: (moment, pair), a Border, or None."""
    due = motion.pairs_due()
    if not due:
        return None
    moment = motion.moment_of(due[0])
    touching = [pair for pair in due if pair - 1 in due or pair + 1 in due]
    if touching:
        return Border(moment, touching, motion.struck)
    return (moment, due[0])


def take_clash(motion, moment):
    """Lets the next clash happen and returns what came: (moment, pair), a Border, or None.

    None also stands for a clash or a border behind the moment, if a moment is given.
    """
    event = _event_of(motion)
    if event is None:
        return None
    is_border = isinstance(event, Border)
    when = event.moment if is_border else event[0]
    if moment is not None and compare(when, moment) > 0:
        return None
    if not is_border:
        if len(motion.struck) >= MOST_CLASHES:
            raise Long(MOST_CLASHES)
        motion.clash(event[1], when)
    return event


def followed(row, gaps, moment):
    """Returns the motion of a row up to a moment, or to its end if moment is None, or the Border it meets."""
    motion = Motion(row, gaps)
    event = take_clash(motion, moment)
    while isinstance(event, tuple):
        event = take_clash(motion, moment)
    return motion if event is None else event


def next_clash(row, gaps):
    """Returns the first clash as (moment, pair), the Border that comes first, or None."""
    return _event_of(Motion(row, check_gaps(row, gaps)))


def clashes_of(row, gaps):
    """Yields the clashes of a run as (moment, pair, speeds), and last the Border that it meets."""
    motion = Motion(row, check_gaps(row, gaps))
    event = take_clash(motion, None)
    while isinstance(event, tuple):
        moment, pair = event
        yield (moment, pair, motion.speeds_now())
        event = take_clash(motion, None)
    if event is not None:
        yield event


def run_of(row, gaps):
    """Returns the Run of a row, or the first Border that it meets."""
    motion = followed(row, check_gaps(row, gaps), None)
    if isinstance(motion, Border):
        return motion
    gaps_left = motion.gaps_then(motion.last_moment())
    return Run(motion.struck, motion.moments, motion.speeds_now(), gaps_left)


def _are_just(things, told):
    """Tells whether a tuple holds just these ratios."""
    return len(things) == len(told) and all([is_just(thing, ratio) for thing, ratio in zip(things, told)])


def _clash_fault(motion, pair, moments):
    """Returns what is wrong with the next clash of a result, and lets it happen if nothing is."""
    event = _event_of(motion)
    at = len(motion.struck)
    if not isinstance(event, tuple) or at >= MOST_CLASHES or not is_whole(pair) or pair != event[1]:
        return "word"
    if at >= len(moments) or not is_just(moments[at], event[0]):
        return "moments"
    motion.clash(pair, event[0])
    return None


def run_fault(row, gaps, result):
    """Returns None if the result is the run of the row, else the word of its first fault."""
    motion = Motion(row, check_gaps(row, gaps))
    for pair in result.word:
        fault = _clash_fault(motion, pair, result.moments)
        if fault is not None:
            return fault
    if len(result.moments) > len(motion.moments):
        return "moments"
    if not _are_just(result.speeds, motion.speeds_now()):
        return "speeds"
    if not _are_just(result.gaps, motion.gaps_then(motion.last_moment())):
        return "gaps"
    return "more" if motion.pairs_due() else None
