"""[5.4], [5.6] Corners, tight rows and shares."""

import unittest
from fractions import Fraction
from itertools import product
from math import gcd
from random import Random

from helping import Case, as_told
from samples import UNITS, some_systems

from untoldgaps.corners import find_corners, share_of, tight_rows
from untoldgaps.strict import Inner, Strict, find_inner


def value(row, gaps):
    return sum(a * b for a, b in zip(row, gaps))


def cross(one, other):
    return (
        one[1] * other[2] - one[2] * other[1],
        one[2] * other[0] - one[0] * other[2],
        one[0] * other[1] - one[1] * other[0],
    )


def slow_corners(strict):
    """All directions that lie on enough of the bounding rows and are let by all rows."""
    vectors = list(strict.rows) + UNITS[strict.size]
    if strict.size == 1:
        found = [(1,)]
    elif strict.size == 2:
        found = [(-b, a) for a, b in vectors]
    else:
        found = [cross(one, other) for one, other in product(vectors, repeat=2)]
    told = set()
    for row in found:
        for turned in (row, tuple([-number for number in row])):
            if any(turned) and all(value(vector, turned) >= 0 for vector in vectors):
                told.add(tuple([number // gcd(*turned) for number in turned]))
    return tuple(sorted(told))


def slow_tight(strict, corners):
    needed = {1: 99, 2: 1, 3: 2}[strict.size]
    rows = set(strict.rows) - set(UNITS[strict.size])
    return tuple(sorted(row for row in rows if [value(row, each) for each in corners].count(0) >= needed))


def slow_share(strict):
    """With two gaps: how much of the line from (0, 1) to (1, 0) is kept."""
    low, high = Fraction(0), Fraction(1)
    for a, b in strict.rows:
        # At (x, 1 - x) the row has the value b + (a - b) * x.
        if a == b:
            low = low if b > 0 else high
        elif a > b:
            low = max(low, Fraction(-b, a - b))
        else:
            high = min(high, Fraction(b, b - a))
    return max(high - low, Fraction(0))


def systems_with_inner(number, count):
    for strict in some_systems(number, count):
        if isinstance(find_inner(strict), Inner):
            yield strict


class FindCornersTest(Case):
    def test_some(self):
        self.is_same(find_corners(Strict(1, [])), ((1,),))
        self.is_same(find_corners(Strict(2, [])), ((0, 1), (1, 0)))
        self.is_same(find_corners(Strict(3, [])), ((0, 0, 1), (0, 1, 0), (1, 0, 0)))
        self.is_same(find_corners(Strict(2, [(1, -2), (-1, 5)])), ((2, 1), (5, 1)))
        self.is_same(find_corners(Strict(3, [(-1, 0, 1), (1, 1, -1)])), ((0, 1, 0), (0, 1, 1), (1, 0, 1)))
        self.is_same(
            find_corners(Strict(3, [(-1, 1, 1), (1, 1, -1)])), ((0, 1, 0), (0, 1, 1), (1, 0, 1), (1, 1, 0))
        )
        # A row through a corner, and one that only touches all gaps.
        self.is_same(find_corners(Strict(3, [(1, -1, 0)])), ((0, 0, 1), (1, 0, 0), (1, 1, 0)))
        self.is_same(find_corners(Strict(3, [(1, 0, 1)])), ((0, 0, 1), (0, 1, 0), (1, 0, 0)))

    def test_against_the_definition(self):
        counts = {1: set(), 2: set(), 3: set()}
        for strict in systems_with_inner(251, 700):
            corners = find_corners(strict)
            self.is_same(corners, slow_corners(strict))
            counts[strict.size].add(len(corners))
            inside = [sum(numbers) for numbers in zip(*corners)]
            self.is_same(strict.holds_at(inside), True)
        self.assertEqual((counts[1], counts[2]), ({1}, {2}))
        self.assertTrue(counts[3] >= {3, 4, 5})

    def test_gaps_are_sums_of_corners(self):
        """What keeps the rows is a sum of corners times ratios above 0, and such sums keep them."""
        chance = Random(252)
        for strict in systems_with_inner(253, 200):
            corners = find_corners(strict)
            for _ in range(5):
                factors = [chance.randint(1, 30) for _ in corners]
                gaps = [sum(f * corner[at] for f, corner in zip(factors, corners)) for at in range(strict.size)]
                self.is_same(strict.holds_at(gaps), True)

    def test_empty(self):
        for size, rows in ((1, [[0]]), (1, [[-1]]), (2, [(1, -1), (-1, 1)]), (3, [(0, 0, 0)]), (3, [(-1, 0, 0)])):
            self.is_same(find_corners(Strict(size, rows)), ())
            self.is_same(tight_rows(Strict(size, rows)), ())


class TightRowsTest(Case):
    def test_some(self):
        self.is_same(tight_rows(Strict(3, [(1, 1, -1), (-1, 0, 1), (1, 1, -1)])), ((-1, 0, 1), (1, 1, -1)))
        self.is_same(tight_rows(Strict(3, [(1, 1, 0), (0, 0, 1), (1, 0, 0)])), ())
        self.is_same(tight_rows(Strict(2, [(1, -2), (1, -1), (1, 0), (0, 1), (-1, 9)])), ((-1, 9), (1, -2)))
        self.is_same(tight_rows(Strict(2, [(1, 1)])), ())
        self.is_same(tight_rows(Strict(1, [[1], [4]])), ())
        self.is_same(tight_rows(Strict(3, [])), ())

    def test_against_the_definition(self):
        for strict in systems_with_inner(254, 700):
            rows = tight_rows(strict)
            self.is_same(rows, slow_tight(strict, find_corners(strict)))
            # All gaps that keep these keep all rows.
            self.is_same(find_corners(Strict(strict.size, rows)), find_corners(strict))


class ShareTest(Case):
    def test_some(self):
        self.is_same(share_of(Strict(1, [])), (1, 1))
        self.is_same(share_of(Strict(1, [[1]])), (1, 1))
        self.is_same(share_of(Strict(1, [[0]])), (0, 1))
        self.is_same(share_of(Strict(2, [])), (1, 1))
        self.is_same(share_of(Strict(2, [(1, -1)])), (1, 2))
        self.is_same(share_of(Strict(2, [(1, -2)])), (1, 3))
        self.is_same(share_of(Strict(2, [(1, -2), (-1, 1)])), (0, 1))
        self.is_same(share_of(Strict(3, [])), (1, 1))
        self.is_same(share_of(Strict(3, [(1, -1, 0)])), (1, 2))
        self.is_same(share_of(Strict(3, [(1, -1, 0), (0, 1, -1)])), (1, 6))
        self.is_same(share_of(Strict(3, [(1, -1, -1)])), (1, 4))
        self.is_same(share_of(Strict(3, [(-1, 1, 1), (1, 1, -1)])), (1, 2))
        self.is_same(share_of(Strict(3, [(-1, 1, 1), (1, 1, -1), (1, -1, 1)])), (1, 4))
        self.is_same(share_of(Strict(3, [(0, 0, 0)])), (0, 1))

    def test_two_gaps(self):
        seen = set()
        for strict in some_systems(255, 2000):
            if strict.size == 2:
                share = share_of(strict)
                self.is_same(share, as_told(slow_share(strict)))
                seen.add(share)
        self.assertGreater(len(seen), 20)

    def test_cut_in_two(self):
        """The shares with a row and with minus this row add up to the share without it."""
        chance = Random(256)
        for strict in some_systems(257, 500, 5):
            row = [chance.randint(-4, 4) for _ in range(strict.size)]
            if any(row):
                parts = [share_of(strict.with_row(row)), share_of(strict.with_row([-number for number in row]))]
                whole = share_of(strict)
                self.is_told(whole)
                self.assertEqual(sum(Fraction(*part) for part in parts), Fraction(*whole))
                self.assertTrue(0 <= Fraction(*whole) <= 1)
                self.is_same(whole == (0, 1), not isinstance(find_inner(strict), Inner))


if __name__ == "__main__":
    unittest.main()
