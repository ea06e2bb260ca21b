"""Ranks, and the checks of what is exactly a told value: what the points of several parts rest on."""

import unittest
from fractions import Fraction
from random import Random

from helping import NO_RATIOS, NO_WHOLES, Case, as_told
from oracle import fractions

from untoldgaps.ranks import ascending, rows_ascending
from untoldgaps.ratios import is_exactly, is_told


class AscendingTest(Case):
    def test_close_ones(self):
        great = 10**40
        told = [(great + 1, great), (great, great - 1), (1, 1), (great - 1, great), (1, 1), (-1, great), (0, 1)]
        self.is_same(ascending(told), [as_told(each) for each in sorted(fractions(told))])
        self.is_same(ascending([]), [])

    def test_at_random(self):
        chance = Random(271)
        for _ in range(200):
            told = [
                as_told(Fraction(chance.randint(-30, 30), chance.randint(1, 30))) for _ in range(chance.randint(0, 30))
            ]
            self.is_same(ascending(told), [as_told(each) for each in sorted(fractions(told))])

    def test_rows(self):
        rows = [((1, 2), (5, 1)), ((1, 3), (9, 1)), ((1, 2), (-5, 1)), ((-1, 1), (0, 1)), ((1, 2), (1, 100))]
        self.is_same(rows_ascending(rows), [rows[3], rows[1], rows[2], rows[4], rows[0]])
        self.is_same(rows_ascending([]), [])


class ExactlyTest(Case):
    def test_is_told(self):
        for thing in ((0, 1), (-3, 2), (7, 1)):
            self.is_same(is_told(thing), True)
        for thing in NO_RATIOS + (1, 0, (2, 2), (0, 2), [1, 2], (-1, -1)):
            self.is_same(is_told(thing), False)

    def test_is_exactly(self):
        for told in (0, 1, (), (1, 0), ((1, 2), (0, 1)), (((1,),),)):
            self.is_same(is_exactly(told, told), True)
        for thing, told in (
            (True, 1),
            (False, 0),
            ((True, 0), (1, 0)),
            ((1, False), (1, 0)),
            ([1, 0], (1, 0)),
            (([1, 2], (0, 1)), ((1, 2), (0, 1))),
            ((1,), (1, 0)),
            ((1, 0, 0), (1, 0)),
            (1, (1,)),
            ((1,), 1),
            (2, 1),
            (None, ()),
        ):
            self.is_same(is_exactly(thing, told), False)
        for thing in NO_WHOLES:
            self.is_same(is_exactly(thing, 1), False)


if __name__ == "__main__":
    unittest.main()
