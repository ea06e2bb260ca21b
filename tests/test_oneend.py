"""[4.10], [4.11] One end or two."""

import unittest
from itertools import product
from random import Random

from helping import NO_RATIOS, NO_SEQUENCES, NO_WHOLES, Case
from oracle import whole_run

from untoldgaps.closedrows import is_closed, orders_of, roots_of
from untoldgaps.errors import Long
from untoldgaps.oneend import OneEnd, TwoEnds, decide_ends, ends_fault
from untoldgaps.rows import Row, check_gaps

OPEN = Row([1, 1, 2, 1], [5, 6, 7, 8])
CLOSED = Row([2, 1, 3], [5, 6, 7])


def some_rows(number, count):
    chance = Random(number)
    for _ in range(count):
        wall = chance.random() < 0.5
        weights = [chance.choice((1, 1, 2, 3, 9)) for _ in range(chance.randint(1 if wall else 2, 7))]
        yield Row(weights, [chance.randint(-3, 3) for _ in weights], wall)


def changed(result, **more):
    values = {"index": result.index, "speeds": result.speeds, "one": result.one, "other": result.other}
    values.update(more)
    return TwoEnds(**values)


class DecideEndsTest(Case):
    def check(self, row):
        result = decide_ends(row)
        if is_closed(row):
            self.assertIs(result.__class__, OneEnd)
            self.is_same(result.roots, roots_of(row))
        else:
            self.assertIs(result.__class__, TwoEnds)
            self.is_same(result.index, orders_of(row).index(None))
            for ratios in (result.speeds, result.one, result.other):
                self.are_told(ratios)
            self.assertEqual(len(result.speeds), len(row))
            self.is_same(check_gaps(row, result.one), result.one)
            self.is_same(check_gaps(row, result.other), result.other)
            ends = []
            for gaps in (result.one, result.other):
                _, border, world = whole_run(row.with_speeds(result.speeds), gaps)
                self.assertIsNone(border)
                ends.append(world.speeds)
            self.assertNotEqual(ends[0], ends[1])
        self.assertIsNone(ends_fault(row, result))

    def test_two_gaps(self):
        for weights in product((1, 2, 3, 5, 6, 9), repeat=3):
            self.check(Row(weights, [0, 0, 0]))
        for weights in product(range(1, 10), repeat=2):
            self.check(Row(weights, [0, 0], True))

    def test_more_gaps_and_one(self):
        for row in some_rows(231, 200):
            self.check(row)
        self.check(Row([1, 5], [0, 0]))
        self.check(Row([4], [1], True))

    def test_many_balls(self):
        self.check(Row([1] * 40, [0] * 40))
        self.check(Row([1] * 39 + [2], [0] * 40, True))
        self.check(Row([1] * 20 + [9] + [1] * 19, [0] * 40))
        self.check(Row([9, 1] * 20, [0] * 40, True))

    def test_speeds_mean_nothing(self):
        for row in some_rows(232, 40):
            self.assertEqual(decide_ends(row), decide_ends(row.quicker(0)))
            self.assertIsNone(ends_fault(row.turned(), decide_ends(row)))

    def test_examples(self):
        self.assertTrue(decide_ends(CLOSED) == OneEnd(((0, 1), (1, 0), (2, 3), (4, 3))))
        self.is_same(decide_ends(OPEN).index, 0)
        self.is_same(decide_ends(Row([2, 2, 2, 3], [0] * 4)).index, 1)
        self.is_same(decide_ends(Row([2, 2, 2, 3], [0] * 4, True)).index, 2)


class EqualityTest(Case):
    def test_one_end(self):
        self.assertTrue(OneEnd(((1,),)) == OneEnd(((1,),)))
        for other in (OneEnd(((2,),)), OneEnd(()), ((1,),), None, TwoEnds(((1,),), 0, 0, 0)):
            self.assertFalse(OneEnd(((1,),)) == other)
            self.assertTrue(OneEnd(((1,),)) != other)

    def test_two_ends(self):
        told = TwoEnds(0, (1,), (2,), (3,))
        self.assertTrue(told == TwoEnds(0, (1,), (2,), (3,)))
        for other in (
            TwoEnds(1, (1,), (2,), (3,)),
            TwoEnds(0, (2,), (2,), (3,)),
            TwoEnds(0, (1,), (1,), (3,)),
            TwoEnds(0, (1,), (2,), (2,)),
            OneEnd(0),
            (0, (1,), (2,), (3,)),
        ):
            self.assertFalse(told == other)
            self.assertTrue(told != other)

    def test_constructors_keep_all(self):
        roots = [[1]]
        self.assertIs(OneEnd(roots).roots, roots)
        values = ("x", [1], {2}, None)
        told = TwoEnds(*values)
        for name, value in zip(("index", "speeds", "one", "other"), values):
            self.assertIs(getattr(told, name), value)


class EndsFaultTest(Case):
    def setUp(self):
        self.right = TwoEnds(0, [2, 1, (0, 3), 7], (1, 2, 1), [1, (1, 2), 1])
        self.assertIsNone(ends_fault(OPEN, self.right))

    def fault(self, **more):
        return ends_fault(OPEN, changed(self.right, **more))

    def test_kind(self):
        for row in (OPEN, CLOSED):
            for thing in (None, 0, roots_of(CLOSED), (0, (), (), ()), "roots", [OneEnd(roots_of(CLOSED))]):
                self.is_same(ends_fault(row, thing), "kind")

    def test_roots(self):
        right = roots_of(CLOSED)
        self.assertIsNone(ends_fault(CLOSED, OneEnd(right)))
        for roots in (
            list(right),
            right[::-1],
            right[:-1],
            right + ((5, 5),),
            ([0, 1],) + right[1:],
            ((0, True),) + right[1:],
            ((False, 1),) + right[1:],
            (),
            None,
            7,
        ):
            self.is_same(ends_fault(CLOSED, OneEnd(roots)), "roots")
        for roots in (right, (), None, ((0, 0, 1), (0, 1, 0), (1, 0, 0))):
            self.is_same(ends_fault(OPEN, OneEnd(roots)), "roots")

    def test_index(self):
        for index in NO_WHOLES + (-1, 1, 2):
            self.is_same(self.fault(index=index), "index")
        self.is_same(self.fault(index=1, speeds=None, one=None), "index")
        later = Row([2, 2, 2, 3], [0] * 4)
        told = decide_ends(later)
        for index in (True, 0, 2, (1,)):
            self.is_same(ends_fault(later, changed(told, index=index)), "index")
        for index in (0, None):
            self.is_same(ends_fault(CLOSED, TwoEnds(index, [2, 1, 0], [1, 2], [2, 1])), "index")

    def test_speeds(self):
        for speeds in NO_SEQUENCES + ([], [1, 2, 3], [1, 2, 3, 4, 5], None):
            self.is_same(self.fault(speeds=speeds), "speeds")
        for thing in NO_RATIOS:
            self.is_same(self.fault(speeds=[1, 0, 0, thing]), "speeds")
        self.is_same(self.fault(speeds=[], one=None, other=[1, 1, 1]), "speeds")

    def test_gaps(self):
        for thing in NO_SEQUENCES + ([1, 1], [1, 1, 1, 1], [1, 0, 1], [1, 1, -1], [1, 1, True], ()):
            self.is_same(self.fault(one=thing), "gaps")
            self.is_same(self.fault(other=thing), "gaps")

    def test_border(self):
        self.is_same(self.fault(speeds=[2, 1, 0, 7], one=[1, 1, 1]), "border")
        self.is_same(self.fault(speeds=[2, 1, 0, 7], one=[1, 2, 1], other=[3, 3, 1]), "border")
        self.is_same(self.fault(speeds=[2, 1, 0, 7], one=[1, 1, 1], other=[1, 1, 1]), "border")

    def test_ends(self):
        self.is_same(self.fault(other=self.right.one), "ends")
        self.is_same(self.fault(speeds=[0, 0, 0, 0]), "ends")
        self.is_same(self.fault(speeds=[1, 0, 0, 9], one=[1, 1, 1], other=[2, 1, 1]), "ends")

    def test_long(self):
        """Both runs are followed first, and Long is raised even if the other one meets a border."""
        # Behind 812 clashes of like balls comes a ball of another weight, which none of them reaches.
        row = Row([1] * 29 + [2], [-speed for speed in range(1, 29)] + [0, 99], True)
        gaps = [(7 * at * at + 3 * at + 101, 97 + at) for at in range(30)]
        border = [1] * 30
        index = orders_of(row).index(None)
        for one, other in ((gaps, gaps), (gaps, border), (border, gaps)):
            self.refused(Long, {"count": 800}, ends_fault, row, TwoEnds(index, row.speeds, one, other))
        self.is_same(ends_fault(row, TwoEnds(index, row.speeds, border, border)), "border")
        self.is_same(ends_fault(row, TwoEnds(index, row.speeds, gaps, None)), "gaps")
        self.is_same(ends_fault(row, TwoEnds(0, row.speeds, gaps, gaps)), "index")


if __name__ == "__main__":
    unittest.main()
