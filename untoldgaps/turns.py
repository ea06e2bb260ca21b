"""Turns: how many clashes come with two gaps, for all speeds."""

from untoldgaps.clashing import check_pair, check_word
from untoldgaps.pushes import push_of, speeds_closing
from untoldgaps.ratios import over, plus, times
from untoldgaps.stretches import check_two_gaps, other_pair, run_in_turn


def turn_ratios(row, first):
    """Returns the turns: the run has one more clash for each of them that lies below the ratio of closings."""
    check_two_gaps(row)
    pair = check_pair(row, first)
    near = other_pair(row, pair)
    # Each closing is followed as (factor, rest): factor times z, plus rest, where first has the closing 1.
    struck, waiting = ((0, 1), (1, 1)), ((1, 1), (0, 1))
    turns = []
    while True:
        push = push_of(row, pair, near)
        factor = plus(waiting[0], times(push, struck[0]))
        rest = plus(waiting[1], times(push, struck[1]))
        if factor[0] <= 0:
            return tuple(turns)
        turns.append(over(times(rest, -1), factor))
        struck, waiting = (factor, rest), (times(struck[0], -1), times(struck[1], -1))
        pair, near = near, pair


def most_turns(row):
    """Returns the greatest number of clashes that any speeds and gaps bring."""
    return len(turn_ratios(row, row.pairs[0])) + 1


def turn_word(row, first):
    """Returns the word of each run of the row that begins with a pair, or None if it does not come."""
    check_two_gaps(row)
    word, _ = run_in_turn(row, check_pair(row, first))
    return word if word else None


def all_turn_words(row):
    """Returns the words of all runs with any speeds and gaps, ascending."""
    most = most_turns(row)
    words = [()]
    for first in row.pairs:
        near = other_pair(row, first)
        turned = [first if at % 2 == 0 else near for at in range(most)]
        words.extend([tuple(turned[:count]) for count in range(1, most + 1)])
    return tuple(sorted(words))


def _closings_with(row, word):
    """Returns closings with which a run that begins with the first pair of a word has this word."""
    turns = turn_ratios(row, word[0])
    # At a turn itself its clash does not come, so the next turn brings just as many as are asked.
    ratio = turns[len(word) - 1] if len(word) <= len(turns) else plus(turns[-1], 1)
    return ((1, 1), ratio) if word[0] == row.pairs[0] else (ratio, (1, 1))


def _late_gap(closing):
    """Returns a gap that a pair with this closing still has at moment 1, at which the first pair clashes."""
    return plus(closing, 1) if closing[0] > 0 else (1, 1)


def made_run(row, word):
    """Returns speeds and gaps with which the run has this word, or None if there are none."""
    check_two_gaps(row)
    told = check_word(row, word)
    if told not in all_turn_words(row):
        return None
    if not told:
        return (((0, 1),) * len(row), ((1, 1), (1, 1)))
    closings = _closings_with(row, told)
    gaps = [(1, 1) if pair == told[0] else _late_gap(closing) for pair, closing in zip(row.pairs, closings)]
    return (speeds_closing(row, closings), tuple(gaps))
