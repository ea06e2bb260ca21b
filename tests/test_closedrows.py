"""[4.7] to [4.9] Closed rows."""

import unittest
from fractions import Fraction
from itertools import product
from math import gcd
from random import Random

from helping import NO_RATIOS, NO_SEQUENCES, Case, as_told
from oracle import clash, closing, fractions, whole_run

from untoldgaps.closedrows import closed_count, closed_end, closed_moments, is_closed, orders_of, roots_of
from untoldgaps.errors import BadGaps, NotClosed
from untoldgaps.orders import returns_after
from untoldgaps.rows import Row
from untoldgaps.stretches import closings_of
from untoldgaps.tables import is_rest_word


def row_with(weights, wall):
    return Row(weights, [0] * len(weights), wall)


def all_closed(most):
    """All closed rows of at most so many balls, with and without a wall, weights without a common divisor."""
    for wall in (False, True):
        for count in range(1 if wall else 2, most + 1):
            for weights in product(range(1, 10), repeat=count):
                if gcd(*weights) == 1 and is_closed(row_with(weights, wall)):
                    yield row_with(weights, wall)


CLOSED = list(all_closed(4))
WIDE = [row for row in CLOSED if row.gap_count > 1]


def slow_orders(row):
    """The orders by words repeated: the least n for which the one and the other n times change no speeds."""
    for one, other in zip(row.pairs, row.pairs[1:]):
        yield next((n for n in range(1, 8) if is_rest_word(row, (one, other) * n)), None)


def behind(row, root, pair):
    """The root that has the value of another one behind a clash of a pair, by what it is at single closings."""
    numbers = []
    for at in range(row.gap_count):
        speeds = [] if row.wall else [Fraction(0)]
        speed = Fraction(0)
        for place in range(row.gap_count):
            speed -= place == at
            speeds.append(speed)
        told = clash(row.weights, speeds, pair)
        numbers.append(sum(entry * closing(told, near) for entry, near in zip(root, row.pairs)))
    bottom = 1
    for number in numbers:
        bottom *= Fraction(number).denominator
    wholes = [int(number * bottom) for number in numbers]
    return tuple([whole // gcd(*wholes) for whole in wholes])


def slow_roots(row):
    roots = {tuple([int(place == at) for place in range(row.gap_count)]) for at in range(row.gap_count)}
    fresh = list(roots)
    while fresh:
        root = fresh.pop()
        for pair in row.pairs:
            other = behind(row, root, pair)
            if min(other) >= 0 and other not in roots:
                roots.add(other)
                fresh.append(other)
    return tuple(sorted(roots))


def some_closed(number, count):
    """Closed rows with speeds and gaps."""
    chance = Random(number)
    for _ in range(count):
        row = chance.choice(WIDE) if chance.random() < 0.9 else chance.choice(CLOSED)
        # Gaps and speeds of few sizes bring borders and levels.
        parts, size = chance.choice(((1, 2), (3, 60)))
        speeds = [(chance.randint(-3, 3), chance.randint(1, parts)) for _ in range(len(row))]
        gaps = [(chance.randint(1, size), chance.randint(1, parts)) for _ in row.pairs]
        yield row.with_speeds(speeds), gaps


class OrdersTest(Case):
    def test_examples(self):
        self.is_same(orders_of(row_with((1, 1, 1), False)), (3,))
        self.is_same(orders_of(row_with((1, 1), True)), (4,))
        self.is_same(orders_of(row_with((2, 1, 3), False)), (4,))
        self.is_same(orders_of(row_with((6, 1, 7), False)), (6,))
        self.is_same(orders_of(row_with((6, 2, 1, 3), False)), (3, 4))
        self.is_same(orders_of(row_with((1, 3), True)), (6,))
        self.is_same(orders_of(row_with((3, 1), True)), (3,))
        self.is_same(orders_of(row_with((2, 1, 2, 1, 2), False)), (None, None, None))
        self.is_same(orders_of(row_with((1, 1, 1, 2), True)), (4, 3, None))
        self.is_same(orders_of(row_with((5, 7), False)), ())
        self.is_same(orders_of(row_with((5,), True)), ())

    def test_against_words_repeated(self):
        seen = set()
        for weights in product(range(1, 10), repeat=3):
            row = row_with(weights, False)
            self.is_same(orders_of(row), tuple(slow_orders(row)))
            seen.update(orders_of(row))
        for weights in product(range(1, 10), repeat=2):
            row = row_with(weights, True)
            self.is_same(orders_of(row), tuple(slow_orders(row)))
            self.is_same(orders_of(row), (returns_after(row, row.pairs),))
        self.assertEqual(seen, {3, 4, 6, None})

    def test_many_balls(self):
        chance = Random(221)
        for _ in range(40):
            wall = chance.random() < 0.5
            row = row_with([chance.choice((1, 1, 2, 3, 6)) for _ in range(chance.randint(2, 7))], wall)
            self.is_same(orders_of(row), tuple(slow_orders(row)))
            self.is_same(is_closed(row), None not in orders_of(row))
        self.is_same(orders_of(row_with([4] * 40, True)), (4,) + (3,) * 38)

    def test_speeds_mean_nothing(self):
        self.is_same(orders_of(Row([2, 1, 3], [7, -1, (1, 2)])), (4,))
        self.is_same(roots_of(Row([2, 1, 3], [7, -1, (1, 2)])), roots_of(row_with((2, 1, 3), False)))

    def test_is_closed(self):
        for weights in ([1] * 40, [9, 9], [3, 3, 3], [2, 1, 3], [6, 1, 7], [6, 2, 1, 3]):
            self.is_same(is_closed(row_with(weights, False)), True)
        for weights in ([1], [7] * 40, [1, 3], [3, 1]):
            self.is_same(is_closed(row_with(weights, True)), True)
        for weights in ([2, 1, 2], [1, 1, 1, 2], [1, 2, 1, 1]):
            self.is_same(is_closed(row_with(weights, False)), False)
        self.is_same(is_closed(row_with([2, 1], True)), False)


class RootsTest(Case):
    def test_examples(self):
        self.is_same(roots_of(row_with((2, 1, 3), False)), ((0, 1), (1, 0), (2, 3), (4, 3)))
        self.is_same(roots_of(row_with((1, 1, 1), False)), ((0, 1), (1, 0), (1, 1)))
        self.is_same(roots_of(row_with((4, 5), False)), ((1,),))
        self.is_same(roots_of(row_with((1, 1), True)), ((0, 1), (1, 0), (1, 1), (2, 1)))

    def test_against_the_rule(self):
        for row in CLOSED + [row_with((1,) * 6, False), row_with((2,) * 5, True)]:
            self.is_same(roots_of(row), slow_roots(row))

    def test_many(self):
        roots = roots_of(row_with((1,) * 40, False))
        self.assertEqual(len(roots), 780)
        # Without a wall they are the rows of neighbouring pairs.
        self.assertEqual(set(roots), {
            tuple([int(low <= place <= high) for place in range(39)]) for low in range(39) for high in range(low, 39)
        })
        self.assertEqual(len(roots_of(row_with((1,) * 12, True))), 144)
        # Order 6 brings 6 roots, 4 brings 4, 3 brings 3.
        self.assertEqual([len(roots_of(row_with(weights, False))) for weights in ((6, 1, 7), (2, 1, 3))], [6, 4])
        self.assertEqual(len(roots_of(row_with((6, 2, 1, 3), False))), 9)

    def test_not_closed(self):
        for weights, wall, index in (
            ((2, 1, 2), False, 0),
            ((1, 1, 1, 2), False, 1),
            ((1, 1, 1, 2), True, 2),
            ((2, 1, 1, 2), True, 0),
            ((1, 2, 1, 2, 1), False, 0),
        ):
            row = row_with(weights, wall)
            for call in (roots_of, closed_count, closed_end):
                self.refused(NotClosed, {"index": index}, call, row)
            for gaps in (None, [], [0] * row.gap_count, [1] * row.gap_count):
                self.refused(NotClosed, {"index": index}, closed_moments, row, gaps)


class ClosedRunsTest(Case):
    def test_example(self):
        row = Row([2, 1, 3], [1, 0, -1])
        self.is_same([closed_count(row), closed_end(row)], [4, ((-4, 3), (-1, 3), (2, 3))])
        self.is_same(closed_moments(row, [1, 2]), ((1, 1), (10, 7), (8, 5), (2, 1)))

    def test_against_runs(self):
        borders = 0
        for row, gaps in some_closed(223, 300):
            clashes, border, world = whole_run(row, gaps)
            moments = closed_moments(row, gaps)
            self.are_told(moments)
            self.assertEqual(len(moments), closed_count(row))
            if border:
                borders += 1
                # What came ahead of the border is the same.
                ahead = tuple([as_told(moment) for moment, _, _ in clashes])
                self.is_same(moments[: len(clashes)], ahead)
                continue
            self.is_same(closed_count(row), len(clashes))
            self.is_same(closed_end(row), tuple([as_told(speed) for speed in world.speeds]))
            self.is_same(moments, tuple([as_told(moment) for moment, _, _ in clashes]))
        self.assertGreater(borders, 3)

    def test_all_other_orders(self):
        """Whichever coming pairs clash, whether they would come first or not: one count and one end."""
        chance = Random(224)
        for row, _ in some_closed(225, 100):
            for _ in range(3):
                speeds = fractions(row.speeds)
                count = 0
                while coming := [pair for pair in row.pairs if closing(speeds, pair) > 0]:
                    speeds = clash(row.weights, speeds, chance.choice(coming))
                    count += 1
                self.is_same(closed_count(row), count)
                self.is_same(closed_end(row), tuple([as_told(speed) for speed in speeds]))

    def test_by_the_roots(self):
        for row, gaps in some_closed(226, 100):
            closings = fractions(closings_of(row))
            told = fractions(gaps)
            moments = []
            for root in roots_of(row):
                speed = sum(entry * each for entry, each in zip(root, closings))
                if speed > 0:
                    moments.append(sum(entry * gap for entry, gap in zip(root, told)) / speed)
            self.is_same(closed_moments(row, gaps), tuple([as_told(moment) for moment in sorted(moments)]))
            self.assertLessEqual(closed_count(row), len(roots_of(row)))
            if min(closings) > 0:
                self.is_same(closed_count(row), len(roots_of(row)))

    def test_every_pair_comes(self):
        for row in CLOSED:
            falling = row.with_speeds([-(3 * ball * ball) - ball - 1 for ball in range(len(row))])
            self.is_same(closed_count(falling), len(roots_of(row)))
            self.is_same(closed_count(falling.turned()), 0)
            self.is_same(closed_end(falling.turned()), falling.turned().speeds)
            self.is_same(closed_moments(falling.turned(), [1] * row.gap_count), ())

    def test_at_borders(self):
        self.is_same(closed_moments(Row([1, 1, 1], [1, 0, -1]), [1, 1]), ((1, 1),) * 3)
        self.is_same(closed_moments(Row([2, 1, 3], [1, 0, -1]), [5, 5]), ((5, 1),) * 4)
        self.is_same(closed_moments(Row([1, 1], [-1, -2], True), [(2, 4), (1, 2)]), ((1, 2),) * 4)
        # At a level two moments are equal, and the run goes on.
        self.is_same(
            closed_moments(Row([1] * 4, [1, 0, 0, -1]), [1, 1, 1]),
            ((1, 1), (1, 1), (3, 2), (2, 1), (2, 1)),
        )

    def test_forty_balls(self):
        row = Row([1] * 40, [-speed for speed in range(1, 41)], True)
        gaps = [(7 * at * at + 3 * at + 101, 97 + at) for at in range(40)]
        self.is_same(closed_count(row), 1600)
        self.is_same(closed_end(row), tuple([(speed, 1) for speed in range(1, 41)]))
        moments = closed_moments(row, gaps)
        self.assertEqual(len(moments), 1600)
        self.assertEqual(sorted(fractions(moments)), fractions(moments))

    def test_great_numbers(self):
        row = Row([2, 1, 3], [(10**300 + 1, 10**299 + 7), 0, -1])
        moments = closed_moments(row, [10**200, (1, 10**250)])
        self.assertEqual(len(moments), closed_count(row))
        self.assertEqual(sorted(fractions(moments)), fractions(moments))

    def test_gaps(self):
        row = Row([2, 1, 3], [1, 0, -1])
        for thing in NO_SEQUENCES + ([], [1], [1, 2, 3]):
            self.refused(BadGaps, {"what": "length"}, closed_moments, row, thing)
        for thing in NO_RATIOS + (0, -1, (0, 1)):
            self.refused(BadGaps, {"what": "gap"}, closed_moments, row, (1, thing))
        gaps = [1, 2]
        self.is_same(closed_moments(row, gaps), closed_moments(row, (1, 2)))
        self.is_same(gaps, [1, 2])


if __name__ == "__main__":
    unittest.main()
