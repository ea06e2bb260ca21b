"""The check of words that are passed without a row."""

from untoldgaps.errors import BadWord
from untoldgaps.ratios import is_whole

# A word without a row may name any pair that some row has: the wall's, and those of 40 balls.
LEAST_PAIR = -1
GREATEST_PAIR = 38


def check_pairs(word, most):
    """Returns a word of at most so many pairs as a tuple, of any length if most is None."""
    if not isinstance(word, (list, tuple)) or (most is not None and len(word) > most):
        raise BadWord(0, "word")
    for index, pair in enumerate(word):
        if not is_whole(pair) or not LEAST_PAIR <= pair <= GREATEST_PAIR:
            raise BadWord(index, "pair")
    return tuple(word)
