"""[8.8], [8.9] The orders in which pairs join."""

import unittest
from random import Random

from helping import NO_RATIOS, NO_SEQUENCES, Case
from oracle import StickWorld
from samples import stick_row, stick_rows

from untoldgaps.errors import NoLot, NoWall, Wide
from untoldgaps.rows import Row
from untoldgaps.sticking import pooled_parting
from untoldgaps.stickorders import StickOrder, orders_fault, stick_orders, surely_last

ROW = Row([1, 1, 1], [3, 0, 1])
TWO = Row([1, 1, 1], [2, 1, 0])
WALLED = Row([1, 1, 1], [3, 0, 1], True)
WIDE = Row([1] * 5, [4, 3, 2, 1, 0])


def narrow(number, count):
    return stick_rows(number, count, most=4)


def order_of(row, gaps):
    """The order of a sticking run, None if two pairs join at one moment."""
    moments = StickWorld(row, gaps).follow().join_moments()
    joined = sorted((moment, pair) for pair, moment in enumerate(moments) if moment is not None)
    if len({moment for moment, _ in joined}) < len(joined):
        return None
    return tuple([pair for _, pair in joined])


def drawn_gaps(chance, row):
    """Gaps of all sizes, so that rare orders come up."""
    return [(chance.randint(1, 99), chance.choice((1, 10, 100, 1000))) for _ in row.pairs]


def pairs_of(orders):
    return [order.pairs for order in orders]


class OrdersTest(Case):
    def test_example(self):
        self.is_same(pairs_of(stick_orders(ROW)), [(0, 1)])
        self.is_same(pairs_of(stick_orders(TWO)), [(0, 1), (1, 0)])

    def test_some(self):
        self.is_same(pairs_of(stick_orders(Row([1, 2], [1, 0]))), [(0,)])
        self.is_same(pairs_of(stick_orders(Row([1] * 4, [2, 0, 3, 1]))), [(0, 2), (2, 0)])
        self.is_same(pairs_of(stick_orders(Row([1] * 4, [3, 2, 1, 0]))),
                     [(0, 1, 2), (0, 2, 1), (1, 0, 2), (1, 2, 0), (2, 0, 1), (2, 1, 0)])

    def test_nothing_joins(self):
        for row in (Row([1, 2], [0, 0]), Row([3] * 4, [0, 1, 1, 2])):
            told = stick_orders(row)
            self.is_same(pairs_of(told), [()])
            self.are_told(told[0].gaps)
            self.assertEqual(len(told[0].gaps), row.gap_count)
            self.assertIsNone(orders_fault(row, told))

    def test_told_gaps(self):
        for row in narrow(461, 250):
            told = stick_orders(row)
            self.assertIs(told.__class__, tuple)
            pairs = pairs_of(told)
            self.assertEqual(pairs, sorted(set(pairs)))
            for order in told:
                self.assertIs(order.__class__, StickOrder)
                self.are_told(order.gaps)
                self.is_same(order_of(row, order.gaps), order.pairs)

    def test_all_orders(self):
        """Drawn gaps have orders that are told, and they have all of these."""
        chance = Random(462)
        sizes = {}
        for row in narrow(463, 100):
            told = pairs_of(stick_orders(row))
            met = set()
            for _ in range(30):
                order = order_of(row, drawn_gaps(chance, row))
                if order is not None:
                    met.add(order)
                    self.assertIn(order, told)
            tries = 0
            while met != set(told) and tries < 20000:
                met.add(order_of(row, drawn_gaps(chance, row)))
                met.discard(None)
                tries += 1
            self.assertEqual(met, set(told), (row.weights, row.speeds))
            key = (row.gap_count, len(told))
            sizes[key] = sizes.get(key, 0) + 1
        self.assertGreaterEqual(len(sizes), 6)

    def test_constructor_keeps_all(self):
        pairs, gaps = [0], None
        told = StickOrder(pairs, gaps)
        self.assertIs(told.pairs, pairs)
        self.assertIs(told.gaps, gaps)
        self.assertFalse(StickOrder((), ()) == StickOrder((), ()))


class FaultTest(Case):
    # TWO has the orders (0, 1) and (1, 0): the first one if gap 0 is less than gap 1.
    ONE, OTHER = StickOrder((0, 1), (1, 2)), StickOrder((1, 0), (2, 1))

    def fault(self, *orders, row=TWO):
        told = orders_fault(row, list(orders))
        self.is_same(orders_fault(row, orders), told)
        return told

    def test_right(self):
        self.assertIsNone(self.fault(self.ONE, self.OTHER))
        self.assertIsNone(self.fault(StickOrder((0, 1), [(1, 3), (2, 3)]), self.OTHER))
        chance = Random(464)
        for row in narrow(465, 60):
            self.assertIsNone(orders_fault(row, stick_orders(row)))
            self.assertIsNone(orders_fault(row, list(stick_orders(row))))
            found = {}
            for _ in range(60):
                gaps = drawn_gaps(chance, row)
                found[order_of(row, gaps)] = gaps
            found.pop(None, None)
            if len(found) == len(stick_orders(row)):
                self.assertIsNone(orders_fault(row, [StickOrder(pairs, found[pairs]) for pairs in sorted(found)]))

    def test_order(self):
        for thing in NO_SEQUENCES + ((0, 1), [0, 1], ((0, 1), (1, 2))):
            self.is_same(self.fault(thing), "order")
            self.is_same(self.fault(self.ONE, thing), "order")
        for pairs in NO_SEQUENCES + ([0, 1], (0, True), (False, 1), (0.0, 1), (0, (1,)), ("0", 1), (None,)):
            self.is_same(self.fault(StickOrder(pairs, (1, 2)), self.OTHER), "order")
            self.is_same(self.fault(self.ONE, StickOrder(pairs, (2, 1))), "order")
        self.is_same(self.fault(self.OTHER, self.ONE), "order")
        self.is_same(self.fault(self.ONE, self.ONE), "order")
        self.is_same(self.fault(self.ONE, self.ONE, self.OTHER), "order")
        # Ahead of wrong gaps of an earlier item.
        self.is_same(self.fault(StickOrder((0, 1), None), self.OTHER, self.OTHER), "order")

    def test_gaps(self):
        for gaps in NO_SEQUENCES + ([1], [1, 2, 3], (0, 2), (-1, 2), (2, 1), (1, 1), (1, True), (1, 2.0)):
            self.is_same(self.fault(StickOrder((0, 1), gaps), self.OTHER), "gaps")
            self.is_same(self.fault(StickOrder((0, 1), gaps)), "gaps")
        for thing in NO_RATIOS:
            self.is_same(self.fault(self.ONE, StickOrder((1, 0), (2, thing))), "gaps")
        for pairs in ((), (0,), (0, 0), (0, 1, 2), (-1, 0), (7,)):
            self.is_same(self.fault(StickOrder(pairs, (1, 2))), "gaps")
        # Over the gaps 1 and 1 both pairs join at moment 1.
        for pairs in ((0, 0), (0, 1), (0,), (1, 1)):
            self.is_same(self.fault(StickOrder(pairs, (1, 1))), "gaps")
        # Ahead of an order that is lacking.
        self.is_same(self.fault(StickOrder((1, 0), (1, 2))), "gaps")

    def test_lacking(self):
        self.is_same(self.fault(), "lacking")
        self.is_same(self.fault(self.ONE), "lacking")
        self.is_same(self.fault(self.OTHER), "lacking")
        self.is_same(self.fault(row=Row([1, 1], [0, 0])), "lacking")
        for row in narrow(466, 40):
            told = stick_orders(row)
            for at in range(len(told)):
                self.is_same(orders_fault(row, told[:at] + told[at + 1:]), "lacking")

    def test_joinings_at_one_moment(self):
        row = Row([1] * 4, [2, 0, 3, 1])
        one, other = stick_orders(row)
        self.assertIsNone(self.fault(one, other, row=row))
        self.is_same(self.fault(StickOrder((0, 2), (1, 5, 1)), other, row=row), "gaps")


class LastTest(Case):
    def test_some(self):
        self.is_same(surely_last(ROW, (0, 2)), 1)
        self.assertIsNone(surely_last(TWO, (0, 2)))
        self.is_same(surely_last(Row([1, 1], [1, 0]), (0, 1)), 0)
        row = Row([1] * 3, [1, 0, 1])
        self.is_same([surely_last(row, lot) for lot in ((0, 1), (2, 2))], [0, None])

    def test_against_the_orders(self):
        seen = {True: 0, False: 0}
        for row in narrow(468, 300):
            orders = [order_of(row, order.gaps) for order in stick_orders(row)]
            for first, last in pooled_parting(row).lots:
                lasts = {pair for order in orders for pair in [each for each in order if first <= each < last][-1:]}
                told = surely_last(row, (first, last))
                self.is_same(told, lasts.pop() if len(lasts) == 1 else None)
                if first < last:
                    seen[told is None] += 1
        self.assertGreater(min(seen.values()), 30)

    def test_no_lot(self):
        row = Row([1] * 3, [1, 0, 1])
        for lot in NO_SEQUENCES + ((0, 2), (0, 0), (1, 1), (1, 2), (2, 1), (0,), (0, 1, 2), [0, 1], (False, 1),
                                   (0, True), (0.0, 1), ((0, 1), (2, 2)), (3, 3), (-1, 0)):
            self.refused(NoLot, {"lot": lot}, surely_last, row, lot)


class ErrorsTest(Case):
    def test_walls_and_width_first(self):
        for row in (WALLED, Row([1] * 9, [0] * 9, True)):
            self.refused(NoWall, {}, stick_orders, row)
            self.refused(NoWall, {}, orders_fault, row, [None])
            self.refused(NoWall, {}, surely_last, row, None)
        for row in (WIDE, Row([1] * 40, [0] * 40)):
            self.refused(Wide, {}, stick_orders, row)
            self.refused(Wide, {}, orders_fault, row, [None])
            self.refused(Wide, {}, surely_last, row, None)
            self.refused(Wide, {}, surely_last, row, (0, 4))
        stick_orders(stick_row(Random(469), 4, 4))


if __name__ == "__main__":
    unittest.main()
