"""Claims: what may be said about the run that a row has for given gaps."""

from untoldgaps.errors import BadClaim
from untoldgaps.ratios import compare, is_ratio, is_whole, ratio_of

# What each kind of claim holds behind its word; those that hold claims are joined ones.
_PARTS = {
    "meets": ("pair",),
    "first": ("pair",),
    "count": ("number", "bounding number"),
    "times": ("pair", "number", "bounding number"),
    "speed": ("ball", "bound", "bound"),
    "ahead": ("pair", "pair"),
    "not": ("claim",),
    "both": ("claim", "claim"),
    "either": ("claim", "claim"),
}
_DEEPEST = 4


def claim_parts(kinds, claim):
    """Returns what a claim holds behind its word, or raises BadClaim if it is of no kind."""
    if not isinstance(claim, tuple) or len(claim) == 0:
        raise BadClaim("kind")
    if not isinstance(claim[0], str) or claim[0] not in kinds:
        raise BadClaim("kind")
    parts = kinds[claim[0]]
    if len(claim) != len(parts) + 1:
        raise BadClaim("kind")
    return parts


def _is_number(thing, most):
    """Tells whether anything is a whole number of 0 or more, and less than most unless that is None."""
    return is_whole(thing) and thing >= 0 and (most is None or thing < most)


def check_part(row, part, thing):
    """Returns a part of a claim that is no claim itself, a ratio in lowest terms, or raises BadClaim."""
    if part == "pair" and not (is_whole(thing) and thing in row.pairs):
        raise BadClaim("pair")
    if part == "ball" and not _is_number(thing, len(row)):
        raise BadClaim("ball")
    if part == "number" and not _is_number(thing, None):
        raise BadClaim("number")
    if part == "bounding number" and thing is not None and not _is_number(thing, None):
        raise BadClaim("number")
    if part == "bound" and thing is not None:
        if not is_ratio(thing):
            raise BadClaim("bound")
        return ratio_of(thing)
    return thing


def _check_within(row, claim, around):
    """Returns a claim inside so many joined claims with its ratios in lowest terms, or raises BadClaim."""
    parts = claim_parts(dict(_PARTS), claim)
    if "claim" in parts and around >= _DEEPEST:
        raise BadClaim("deep")
    told = [claim[0]]
    for part, thing in zip(parts, claim[1:]):
        if part == "claim":
            told.append(_check_within(row, thing, around + 1))
        else:
            told.append(check_part(row, part, thing))
    return tuple(told)


def check_claim(row, claim):
    """Returns a claim about the row with its ratios in lowest terms, or raises BadClaim."""
    return _check_within(row, claim, 0)


def _is_within(many, least, most):
    """Tells whether a number is least or more, and most or less unless most is None."""
    return least <= many and (most is None or many <= most)


def is_speed_within(speed, low, high):
    """Tells whether a ratio is low or more and high or less, where None bounds nothing."""
    if low is not None and compare(speed, low) < 0:
        return False
    return high is None or compare(speed, high) <= 0


def _holds_ahead(word, one, other):
    """Tells whether both pairs clash, the first one first."""
    if one not in word or other not in word:
        return False
    return word.index(one) < word.index(other)


def _holds_alone(claim, word, speeds):
    """Tells whether a claim that is not joined holds."""
    kind = claim[0]
    if kind == "meets":
        return claim[1] in word
    if kind == "first":
        return len(word) > 0 and word[0] == claim[1]
    if kind == "count":
        return _is_within(len(word), claim[1], claim[2])
    if kind == "times":
        return _is_within(word.count(claim[1]), claim[2], claim[3])
    if kind == "speed":
        return is_speed_within(speeds[claim[1]], claim[2], claim[3])
    return _holds_ahead(word, claim[1], claim[2])


def claim_holds(claim, word, speeds):
    """Tells whether a checked claim holds for a run with this word and these speeds at the end."""
    kind = claim[0]
    if kind == "not":
        return not claim_holds(claim[1], word, speeds)
    if kind == "both":
        return claim_holds(claim[1], word, speeds) and claim_holds(claim[2], word, speeds)
    if kind == "either":
        return claim_holds(claim[1], word, speeds) or claim_holds(claim[2], word, speeds)
    return _holds_alone(claim, word, speeds)
