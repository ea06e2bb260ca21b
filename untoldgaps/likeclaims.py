"""Claims that like balls settle, for any number of balls and whatever the gaps are."""

from untoldgaps.blends import blend_of
from untoldgaps.claims import check_claim, claim_holds
from untoldgaps.errors import NotSettled
from untoldgaps.likeballs import check_like, like_counts, like_end
from untoldgaps.verdicts import Never, Sure

_SETTLED = ("meets", "count", "speed")
_JOINED = ("not", "both", "either")


def _passes(sizes, pair):
    """Tells whether some size up to a ball is greater than some size behind it."""
    return pair >= 0 and max(sizes[:pair + 1]) > min(sizes[pair + 1:])


def like_meetings(row):
    """Returns the pairs that clash, ascending, whatever the gaps are."""
    check_like(row)
    speeds = blend_of(row.speeds)[1:]
    if not row.wall:
        return tuple([pair for pair in row.pairs if _passes(speeds, pair)])
    sizes = [abs(speed) for speed in speeds]
    return tuple([pair for pair in row.pairs if min(speeds[pair + 1:]) < 0 or _passes(sizes, pair)])


def _check_settled(claim):
    """Raises NotSettled with the word of the first claim, as they are read, that like balls do not settle."""
    kind = claim[0]
    if kind in _JOINED:
        for part in claim[1:]:
            _check_settled(part)
    elif kind not in _SETTLED and not (kind == "times" and claim[1] == -1):
        raise NotSettled(kind)


def _counted_word(row):
    """Returns a word with the pairs that clash, as many clashes, and as many with the wall, as each run has.

    Settled claims ask for nothing else of a word, so it stands for the words of all runs.
    """
    turns, passes = like_counts(row)
    met = [pair for pair in like_meetings(row) if pair >= 0]
    return [-1] * turns + met + met[:1] * (passes - len(met))


def decide_like(row, claim):
    """Decides a claim that like balls settle: Sure or Never."""
    check_like(row)
    told = check_claim(row, claim)
    _check_settled(told)
    return Sure() if claim_holds(told, _counted_word(row), like_end(row)) else Never()
