"""Facts: what may be heard of the clashes of a run."""

from untoldgaps.errors import BadFact
from untoldgaps.ratios import compare, is_ratio, is_whole, minus, ratio_of, times
from untoldgaps.rows import check_gaps
from untoldgaps.runs import MOST_CLASHES, Border, run_of

MOST_FACTS = 12

# How many things a fact of each kind has, its word among them.
_LENGTHS = {"count": 2, "word": 2, "silent": 2, "between": 5, "exact": 4, "gaps": 5}


def _check_kind(fact):
    """Raises BadFact unless a thing begins as a fact and is as long as one."""
    if not isinstance(fact, (list, tuple)) or len(fact) == 0:
        raise BadFact("fact")
    if not isinstance(fact[0], str) or len(fact) != _LENGTHS.get(fact[0]):
        raise BadFact("fact")


def check_numbers(one, other):
    """Raises BadFact unless these are numbers of clashes, the first one less."""
    if not is_whole(one) or not is_whole(other) or not 1 <= one < other <= MOST_CLASHES:
        raise BadFact("number")


def _is_pair(row, pair):
    """Tells whether anything is a pair of the row."""
    return is_whole(pair) and pair in row.pairs


def check_couple(row, one, other):
    """Raises BadFact unless these are two unlike pairs of the row."""
    if not _is_pair(row, one) or not _is_pair(row, other) or one == other:
        raise BadFact("pair")


def _told_beginning(row, word):
    """Returns the beginning of a word of the row as a tuple."""
    if not isinstance(word, (list, tuple)) or not all([_is_pair(row, pair) for pair in word]):
        raise BadFact("word")
    return tuple(word)


def _told_bounds(low, high):
    """Returns the bounds of a fact as ratios; the second one may be None."""
    if not is_ratio(low) or compare(low, 0) < 0:
        raise BadFact("low")
    if high is None:
        return (ratio_of(low), None)
    if not is_ratio(high) or compare(high, low) <= 0:
        raise BadFact("high")
    return (ratio_of(low), ratio_of(high))


def _told_ratio(ratio):
    """Returns the ratio of an exact fact."""
    if not is_ratio(ratio) or compare(ratio, 0) <= 0:
        raise BadFact("ratio")
    return ratio_of(ratio)


def check_fact(row, fact):
    """Returns a fact as a tuple with its ratios in lowest terms, or raises BadFact."""
    _check_kind(fact)
    kind, one = fact[0], fact[1]
    if kind == "count":
        if not is_whole(one) or not 0 <= one <= MOST_CLASHES:
            raise BadFact("number")
        return (kind, one)
    if kind == "word":
        return (kind, _told_beginning(row, one))
    if kind == "silent":
        if not _is_pair(row, one):
            raise BadFact("pair")
        return (kind, one)
    other = fact[2]
    if kind == "gaps":
        check_couple(row, one, other)
    else:
        check_numbers(one, other)
    if kind == "exact":
        return (kind, one, other, _told_ratio(fact[3]))
    return (kind, one, other) + _told_bounds(fact[3], fact[4])


def check_facts(row, facts):
    """Returns facts as a tuple of checked facts, or raises BadFact."""
    if not isinstance(facts, (list, tuple)) or len(facts) > MOST_FACTS:
        raise BadFact("facts")
    return tuple([check_fact(row, fact) for fact in facts])


def _word_allows(fact, word):
    """Tells whether a checked fact may hold for runs with this word."""
    kind = fact[0]
    if kind == "count":
        return len(word) == fact[1]
    if kind == "word":
        return word[:len(fact[1])] == fact[1]
    if kind == "silent":
        return fact[1] not in word
    return kind == "gaps" or len(word) >= fact[2]


def _less_times(late, factor, soon):
    """Returns the first form less a factor times the second one."""
    return tuple([minus(one, times(factor, other)) for one, other in zip(late, soon)])


def _compared(row, fact, moments, gaps):
    """Returns the form that a fact bounds by another one, and this other one."""
    if fact[0] == "gaps":
        return gaps[fact[1] - row.pairs[0]], gaps[fact[2] - row.pairs[0]]
    return moments[fact[2] - 1], moments[fact[1] - 1]


def demands_of(row, fact, word, moments, gaps):
    """Returns the forms that a checked fact wants above 0, and those that it wants to be 0.

    It is asked of runs with this word; the forms of its moments and those of the first gaps are passed.
    What is returned is None if the fact holds for no such run.
    """
    if not _word_allows(fact, word):
        return None
    if fact[0] in ("count", "word", "silent"):
        return ((), ())
    late, soon = _compared(row, fact, moments, gaps)
    excess = _less_times(late, fact[3], soon)
    if fact[0] == "exact":
        return ((), (excess,))
    if fact[4] is None:
        return ((excess,), ())
    room = [times(number, -1) for number in _less_times(late, fact[4], soon)]
    return ((excess, tuple(room)), ())


def fact_holds(row, gaps, fact):
    """Tells whether a fact holds for the run with these gaps, or returns the Border that it meets."""
    told = check_gaps(row, gaps)
    asked = check_fact(row, fact)
    run = run_of(row, told)
    if isinstance(run, Border):
        return run
    # With known gaps a form is one number.
    demands = demands_of(row, asked, run.word, [(moment,) for moment in run.moments], [(gap,) for gap in told])
    if demands is None:
        return False
    above, level = demands
    return all([form[0][0] > 0 for form in above]) and all([form[0][0] == 0 for form in level])
