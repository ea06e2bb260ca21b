"""Clashes of pairs, and words of clashes one after another."""

from untoldgaps.blends import clash_pair
from untoldgaps.courses import Course, speed_blends
from untoldgaps.errors import BadWord, NoPair
from untoldgaps.ratios import is_whole, lowest_terms

MOST_WORD = 800


def check_pair(row, pair):
    """Returns the number of a pair of the row, or raises NoPair."""
    if not is_whole(pair) or pair not in row.pairs:
        raise NoPair(pair)
    return pair


def check_word(row, word):
    """Returns a word of the row as a tuple, or raises BadWord or NoPair."""
    if not isinstance(word, (list, tuple)) or len(word) > MOST_WORD:
        raise BadWord(0, "word")
    return tuple([check_pair(row, pair) for pair in word])


def _row_behind(row, word):
    """Returns the row behind a word that is checked already."""
    blends = speed_blends(row)
    for pair in word:
        clash_pair(row.weights, blends, pair)
    return row.with_speeds([(top, bottom) for bottom, top in blends])


def after_clash(row, pair):
    """Returns the row behind a clash of the pair, whether the pair comes or not."""
    return _row_behind(row, (check_pair(row, pair),))


def after_word(row, word):
    """Returns the row behind the clashes of a word."""
    return _row_behind(row, check_word(row, word))


def closing_speed(row, pair):
    """Returns by how much the gap of a pair falls in each unit of time."""
    bottom, closing = Course(row, speed_blends(row)).nearing(check_pair(row, pair))
    return lowest_terms(closing, bottom)


def coming_pairs(row):
    """Returns the pairs that come, ascending."""
    return Course(row, speed_blends(row)).pairs_coming()


def first_not_coming(row, word):
    """Returns the first index of a word at which the pair does not come, or None."""
    told = check_word(row, word)
    course = Course(row, speed_blends(row))
    for index, pair in enumerate(told):
        if not course.comes(pair):
            return index
        course.clash(pair)
    return None
