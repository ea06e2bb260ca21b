"""The orders in which pairs join in sticking runs, for all gaps."""

from untoldgaps.cones import cut_cone, middle_of, unit_rows
from untoldgaps.errors import NoLot
from untoldgaps.ranks import ascending
from untoldgaps.ratios import is_exactly, is_whole, lowest_row, minus
from untoldgaps.rows import are_gaps, check_narrow, check_unwalled
from untoldgaps.sticking import Weighed, pooled_parting
from untoldgaps.stickruns import join_moments, lot_form


class StickOrder:
    """An order in which pairs join, and gaps with this order."""

    def __init__(self, pairs, gaps):
        self.pairs = pairs
        self.gaps = gaps


def _next_forms(speeds, lots, count):
    """Returns for each pair between two lots that come together the form of the moment at which they do."""
    forms = {}
    for (first, pair), (_, last) in zip(lots, lots[1:]):
        if speeds.falls((first, last), pair):
            forms[pair] = lot_form(speeds, (first, last), pair, count)
    return forms


def _corners_with(corners, forms, pair):
    """Returns the corners of the gaps for which a pair joins ahead of all others, () if there are none."""
    for other in forms:
        if other != pair and corners:
            lead = [minus(late, soon) for soon, late in zip(forms[pair], forms[other])]
            corners = cut_cone(corners, lowest_row(lead))
    return corners


def _joined_at(lots, pair):
    """Returns the lots behind the joining of a pair."""
    firsts = [first for first, _ in lots if first != pair + 1]
    lasts = [last for _, last in lots if last != pair]
    return list(zip(firsts, lasts))


def _orders_from(speeds, lots, pairs, corners):
    """Returns (pairs, corners) for all orders that begin with some pairs, whose joinings leave these lots."""
    forms = _next_forms(speeds, lots, len(corners[0]))
    if not forms:
        return [(pairs, corners)]
    orders = []
    for pair in sorted(forms):
        left = _corners_with(corners, forms, pair)
        if left:
            orders.extend(_orders_from(speeds, _joined_at(lots, pair), pairs + (pair,), left))
    return orders


def stick_orders(row):
    """Returns the orders in which the pairs of a row can join, ascending, with gaps for each."""
    check_unwalled(row)
    check_narrow(row)
    lots = [(ball, ball) for ball in range(len(row))]
    orders = _orders_from(Weighed(row.weights, row.speeds), lots, (), unit_rows(row.gap_count))
    return tuple([StickOrder(pairs, tuple([(gap, 1) for gap in middle_of(corners)])) for pairs, corners in orders])


def _are_ordered(orders):
    """Tells whether these are orders, each one behind the one before it."""
    for at, order in enumerate(orders):
        if not isinstance(order, StickOrder) or not isinstance(order.pairs, tuple):
            return False
        if not all([is_whole(pair) for pair in order.pairs]):
            return False
        if at > 0 and order.pairs <= orders[at - 1].pairs:
            return False
    return True


def _order_with(row, gaps):
    """Returns the order in which pairs join over some gaps, None if two join at one moment."""
    moments = join_moments(row, gaps)
    told = ascending([moment for moment in moments if moment is not None])
    if any([one == other for one, other in zip(told, told[1:])]):
        return None
    return tuple([moments.index(moment) for moment in told])


def _keeps_order(row, order):
    """Tells whether the gaps of an order lead to it."""
    return are_gaps(row, order.gaps) and _order_with(row, order.gaps) == order.pairs


def orders_fault(row, orders):
    """Returns None if these are the orders of the row with right gaps, else the first word that applies."""
    goals = stick_orders(row)
    if not _are_ordered(orders):
        return "order"
    if not all([_keeps_order(row, order) for order in orders]):
        return "gaps"
    # Each order that some gaps keep is one of the row's, and none is told twice.
    return "lacking" if len(orders) < len(goals) else None


def _check_lot(row, lot):
    """Raises NoLot unless this is a lot of the parting of the row."""
    if not any([is_exactly(lot, told) for told in pooled_parting(row).lots]):
        raise NoLot(lot)


def surely_last(row, lot):
    """Returns the pair of a lot that joins last in every order, or None."""
    check_unwalled(row)
    check_narrow(row)
    _check_lot(row, lot)
    first, last = lot
    if first == last:
        return None
    lasts = [[pair for pair in order.pairs if first <= pair < last][-1] for order in stick_orders(row)]
    return lasts[0] if lasts.count(lasts[0]) == len(lasts) else None
