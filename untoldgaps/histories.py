"""Histories: words that differ by the order of far-apart pairs alone, and all gaps that lead to them."""

from untoldgaps.clashing import MOST_WORD
from untoldgaps.cones import cone_of, middle_of
from untoldgaps.corners import tight_facets
from untoldgaps.forms import forms_of
from untoldgaps.moves import least_order
from untoldgaps.ratios import lowest_row, minus
from untoldgaps.rows import check_gaps, check_narrow
from untoldgaps.runs import Border, run_of
from untoldgaps.wedges import all_wedges
from untoldgaps.words import check_pairs


class History:
    """All gaps of one history, levels let: its least word, the words of its wedges, and what bounds it."""

    def __init__(self, word, words, rows, corners, gaps, speeds):
        self.word = word
        self.words = words
        self.rows = rows
        self.corners = corners
        self.gaps = gaps
        self.speeds = speeds

    def __eq__(self, other):
        return (
            isinstance(other, History)
            and self.word == other.word
            and self.words == other.words
            and self.rows == other.rows
            and self.corners == other.corners
            and self.gaps == other.gaps
            and self.speeds == other.speeds
        )


def least_word(word):
    """Returns the least word of the same history."""
    return tuple(least_order(check_pairs(word, MOST_WORD)))


def same_history(one, other):
    """Tells whether exchanges of far-apart neighbours lead from one word to the other."""
    return least_word(one) == least_word(other)


def _rows_of(row, word):
    """Returns the strict rows of a history: each clash is behind the last ones of the pairs beside its own."""
    moments = forms_of(row, word).moments
    last = {}
    rows = []
    for pair, moment in zip(word, moments):
        for near in (pair - 1, pair + 1):
            if near in last:
                rows.append(lowest_row([minus(late, soon) for late, soon in zip(moment, last[near])]))
        last[pair] = moment
    return rows


def _history_of(row, word, wedges):
    """Returns the history of a least word and its wedges."""
    corners = cone_of(row.gap_count, _rows_of(row, word))
    words = tuple([wedge.word for wedge in wedges])
    ordered = tuple(sorted(corners))
    return History(word, words, tight_facets(corners), ordered, middle_of(ordered), wedges[0].speeds)


def all_histories(row, *, most=400):
    """Returns the histories of all wedges, in ascending order of their least words."""
    groups = {}
    for wedge in all_wedges(row, most=most):
        groups.setdefault(least_word(wedge.word), []).append(wedge)
    return tuple([_history_of(row, word, groups[word]) for word in sorted(list(groups))])


def history_of(row, gaps, *, most=400):
    """Returns the index of the history of the run with some gaps, or the Border that it meets."""
    check_narrow(row)
    told = check_gaps(row, gaps)
    words = [history.word for history in all_histories(row, most=most)]
    run = run_of(row, told)
    if isinstance(run, Border):
        return run
    return words.index(least_word(run.word))
