"""Closed rows: weights with which the gaps decide neither how many clashes come nor how the row ends."""

from untoldgaps.blends import blend_of
from untoldgaps.cones import unit_rows, value_at
from untoldgaps.courses import Course, speed_blends
from untoldgaps.errors import NotClosed
from untoldgaps.pushes import push_of
from untoldgaps.ranks import ascending
from untoldgaps.ratios import lowest_row, lowest_terms, plus, times
from untoldgaps.rows import check_gaps
from untoldgaps.stretches import closings_of

# The order of two pairs by the product of their pushes; with any other product there is none.
_ORDERS = {(1, 1): 3, (2, 1): 4, (3, 1): 6}


def orders_of(row):
    """Returns the orders of the pairs beside each other, None where there is no order."""
    orders = []
    for pair in row.pairs[:-1]:
        pushed = times(push_of(row, pair, pair + 1), push_of(row, pair + 1, pair))
        orders.append(_ORDERS.get(pushed))
    return tuple(orders)


def is_closed(row):
    """Tells whether all pairs beside each other have an order."""
    return None not in orders_of(row)


def _check_closed(row):
    """Raises NotClosed with the first place at which there is no order."""
    orders = orders_of(row)
    if None in orders:
        raise NotClosed(orders.index(None))


def _pushes_of(row):
    """Returns for each pair what its clash adds to the closings beside it: tuples of (place, factor)."""
    pushes = []
    for at, pair in enumerate(row.pairs):
        beside = [(near - row.pairs[0], push_of(row, pair, near)) for near in (pair - 1, pair + 1) if near in row.pairs]
        pushes.append((at, beside))
    return pushes


def _root_behind(root, at, beside):
    """Returns the root behind a clash of the pair at a place, or None if it is no other root."""
    entry = (-root[at], 1)
    for place, push in beside:
        if root[place] != 0:
            entry = plus(entry, times(push, root[place]))
    if entry[0] < 0 or entry == (root[at], 1):
        return None
    return lowest_row(root[:at] + (entry,) + root[at + 1:])


def roots_of(row):
    """Returns the roots of a closed row, ascending."""
    _check_closed(row)
    pushes = _pushes_of(row)
    found = {root: True for root in unit_rows(row.gap_count)}
    waiting = list(found)
    while waiting:
        root = waiting.pop()
        for at, beside in pushes:
            behind = _root_behind(root, at, beside)
            if behind is not None and behind not in found:
                found[behind] = True
                waiting.append(behind)
    return tuple(sorted(list(found)))


def closed_count(row):
    """Returns how many clashes a closed row has, whatever the gaps are."""
    roots = roots_of(row)
    closings = lowest_row(closings_of(row))
    return len([root for root in roots if value_at(root, closings) > 0])


def closed_end(row):
    """Returns the end speeds of a closed row, whatever the gaps are."""
    _check_closed(row)
    course = Course(row, speed_blends(row))
    coming = course.pairs_coming()
    while coming:
        course.clash(coming[0])
        coming = course.pairs_coming()
    return course.speeds_now()


def closed_moments(row, gaps):
    """Returns the moments of all clashes of a closed row, ascending, also those behind a border."""
    _check_closed(row)
    told = blend_of(check_gaps(row, gaps))
    closings = blend_of(closings_of(row))
    moments = []
    for root in roots_of(row):
        closing = value_at(root, closings[1:])
        if closing > 0:
            moments.append(lowest_terms(value_at(root, told[1:]) * closings[0], closing * told[0]))
    return tuple(ascending(moments))
