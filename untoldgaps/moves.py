"""Moves: what may be changed in a word without changing what it does, for all weights."""

from untoldgaps.clashing import MOST_WORD
from untoldgaps.words import check_pairs


def undone_word(word):
    """Returns the word backwards."""
    return check_pairs(word, MOST_WORD)[::-1]


def are_far_apart(one, other):
    """Tells whether two pairs share no ball and are not the same."""
    check_pairs((one, other), MOST_WORD)
    return abs(one - other) >= 2


def _partner_of(stands, pair):
    """Returns the index of the equal pair to which exchanges can bring a pair behind the end, or None."""
    for at in range(len(stands) - 1, -1, -1):
        if stands[at] == pair:
            return at
        if abs(stands[at] - pair) == 1:
            return None
    return None


def _struck(word):
    """Returns the steps up to the last possible strike, and the list of the pairs that then stand."""
    steps = []
    stands = []
    for pair in word:
        at = _partner_of(stands, pair)
        if at is None:
            stands.append(pair)
            continue
        for place in range(len(stands) - 1, at, -1):
            steps.append(("exchange", place))
        steps.append(("strike", at))
        del stands[at]
    return steps, stands


def _least_free(queues):
    """Returns the least pair whose first place lies ahead of those of the pairs beside it.

    Queues hold the places of each pair, the first place last.
    """
    for pair in sorted(queues):
        places = queues[pair]
        if places and _is_ahead(places[-1], queues.get(pair - 1)) and _is_ahead(places[-1], queues.get(pair + 1)):
            return pair
    return None


def _is_ahead(place, others):
    """Tells whether a place lies ahead of the first of the others, if there are any."""
    return not others or place < others[-1]


def least_order(word):
    """Returns the least word, as a list, to which exchanges alone lead."""
    queues = {}
    for at in range(len(word) - 1, -1, -1):
        queues.setdefault(word[at], []).append(at)
    order = []
    while len(order) < len(word):
        pair = _least_free(queues)
        queues[pair].pop()
        order.append(pair)
    return order


def reduced_word(word):
    """Returns the least of the shortest words to which moves lead."""
    _, stands = _struck(check_pairs(word, MOST_WORD))
    return tuple(least_order(stands))


def do_same_by_moves(one, other):
    """Tells whether moves show that two words do the same."""
    return reduced_word(one) == reduced_word(other)


def steps_to_reduced(word):
    """Returns strikes and exchanges that lead from a word to its reduced word."""
    steps, stands = _struck(check_pairs(word, MOST_WORD))
    order = least_order(stands)
    for at, pair in enumerate(order):
        found = stands.index(pair, at)
        for place in range(found - 1, at - 1, -1):
            steps.append(("exchange", place))
        del stands[found]
        stands.insert(at, pair)
    return tuple(steps)


def _free_above(first, low):
    """Returns the least pair above low whose first place lies ahead of those of the pairs beside it."""
    for pair in sorted(first):
        place = first[pair]
        if pair > low and place < first.get(pair - 1, place + 1) and place < first.get(pair + 1, place + 1):
            return pair
    return None


def _next_order(stands):
    """Returns the next greater word to which exchanges alone lead, as a list, or None."""
    first = {}
    for at in range(len(stands) - 1, -1, -1):
        first[stands[at]] = at
        pair = _free_above(first, stands[at])
        if pair is not None:
            rest = stands[at:]
            rest.remove(pair)
            return stands[:at] + [pair] + least_order(rest)
    return None


def arrangements(word):
    """Yields all words to which exchanges alone lead, ascending."""
    order = least_order(check_pairs(word, MOST_WORD))
    while order is not None:
        yield tuple(order)
        order = _next_order(order)
