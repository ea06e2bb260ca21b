"""[4.1] to [4.4] Stretches of the ratio of two gaps."""

import unittest
from fractions import Fraction
from random import Random

from helping import NO_RATIOS, NO_SEQUENCES, Case, as_told
from oracle import closing, fractions, whole_run
from samples import OTHER_WIDTHS, some_row, two_gap_rows

from untoldgaps.errors import BadGaps, TwoGaps
from untoldgaps.rows import Row
from untoldgaps.runs import Border, Run, run_of
from untoldgaps.stretches import Stretch, all_stretches, border_ratios, closings_of, stretch_of, stretches_fault

ROW = Row([2, 1, 2], [1, 0, -1])
ONE_COMES = Row([2, 1, 2], [1, 0, 1])
NONE_COMES = Row([2, 1, 2], [-1, 0, 1])


def told(run):
    clashes, border, world = run
    assert border is None
    return tuple([pair for _, pair, _ in clashes]), tuple([as_told(speed) for speed in world.speeds])


def contents(stretch):
    return (stretch.low, stretch.high, stretch.word, stretch.speeds)


class ClosingsTest(Case):
    def test_closings(self):
        self.is_same(closings_of(Row([1, 2, 3], [(1, 2), -1, 4])), ((3, 2), (-5, 1)))
        self.is_same(closings_of(Row([1, 2], [(1, 2), -1], True)), ((-1, 2), (3, 2)))
        self.is_same(closings_of(Row([5], [-3], True)), ((3, 1),))

    def test_against_the_rule(self):
        chance = Random(201)
        for _ in range(100):
            row = some_row(chance, most=8)
            speeds = fractions(row.speeds)
            expected = tuple([as_told(Fraction(closing(speeds, pair))) for pair in row.pairs])
            self.is_same(closings_of(row), expected)

    def test_forty_balls(self):
        self.is_same(closings_of(Row([1] * 40, list(range(40)), True)), ((0, 1),) + ((-1, 1),) * 39)


class BorderRatiosTest(Case):
    def test_both_come(self):
        self.is_same(border_ratios(ROW), ((1, 1),))
        self.is_same(border_ratios(Row([1, 9, 4], [3, 1, (-1, 3)])), ((3, 2),))
        self.is_same(border_ratios(Row([1, 9], [-2, -7], True)), ((2, 5),))

    def test_one_comes_or_none(self):
        for speeds in ([1, 0, 0], [1, 0, 1], [0, 0, -1], [-1, 0, -1], [0, 0, 0], [-1, 0, 1]):
            self.is_same(border_ratios(Row([2, 1, 2], speeds)), ())
        for speeds in ([-1, -1], [-1, 0], [0, -1], [1, 0], [0, 0], [1, 2]):
            self.is_same(border_ratios(Row([2, 1], speeds, True)), ())

    def test_is_a_border(self):
        """At the border ratio alone the run meets a Border, and there both pairs come together."""
        for row in two_gap_rows(202, 80):
            for top, bottom in border_ratios(row):
                border = run_of(row, [top, bottom])
                self.assertIsInstance(border, Border)
                self.is_same((border.pairs, border.word), (row.pairs, ()))
                self.assertIsInstance(run_of(row, [top * 100 + 1, bottom * 100]), Run)
                self.assertIsInstance(run_of(row, [top * 100 - 1, bottom * 100]), Run)


class AllStretchesTest(Case):
    def test_example(self):
        stretches = all_stretches(ROW)
        self.is_same(
            [stretches[0].high, stretches[0].word, stretches[1].word, stretches[1].speeds],
            [(1, 1), (0, 1, 0, 1), (1, 0, 1, 0), ((-71, 81), (-32, 81), (29, 27))],
        )

    def test_one_stretch(self):
        still = all_stretches(NONE_COMES)
        self.is_same([contents(each) for each in still], [((0, 1), None, (), NONE_COMES.speeds)])
        one = all_stretches(ONE_COMES)
        self.is_same([contents(each) for each in one], [((0, 1), None, (0, 1), ((1, 3), (8, 9), (11, 9)))])
        last = all_stretches(Row([1, 1, 1], [0, 0, -1]))
        self.is_same([contents(each) for each in last], [((0, 1), None, (1, 0), ((-1, 1), (0, 1), (0, 1)))])
        back = all_stretches(Row([1, 1], [-1, 5], True))
        self.is_same([contents(each) for each in back], [((0, 1), None, (-1,), ((1, 1), (5, 1)))])

    def test_against_runs(self):
        """Below, at and above the border ratio."""
        many = set()
        for row in two_gap_rows(203, 200):
            stretches = all_stretches(row)
            self.assertIs(stretches.__class__, tuple)
            self.is_same(stretches[0].low, (0, 1))
            self.assertIsNone(stretches[-1].high)
            self.is_same(tuple([each.high for each in stretches[:-1]]), border_ratios(row))
            self.is_same([each.low for each in stretches[1:]], [each.high for each in stretches[:-1]])
            self.assertEqual(len(set([each.word for each in stretches])), len(stretches))
            many.add(len(stretches))
            for index, stretch in enumerate(stretches):
                low = Fraction(*stretch.low)
                high = low + 9 if stretch.high is None else Fraction(*stretch.high)
                for part in (Fraction(1, 1000), Fraction(1, 2), Fraction(999, 1000)):
                    gaps = [as_told((low + (high - low) * part) * 7), 7]
                    self.is_same(told(whole_run(row, gaps)), (stretch.word, stretch.speeds))
                    self.is_same(stretch_of(row, gaps), index)
        self.assertEqual(many, {1, 2})

    def test_equality(self):
        stretch = Stretch((0, 1), None, (0,), ((1, 1),))
        self.assertTrue(stretch == Stretch((0, 1), None, (0,), ((1, 1),)))
        for other in (
            Stretch((1, 1), None, (0,), ((1, 1),)),
            Stretch((0, 1), (2, 1), (0,), ((1, 1),)),
            Stretch((0, 1), None, (1,), ((1, 1),)),
            Stretch((0, 1), None, (0,), ((2, 1),)),
            ((0, 1), None, (0,), ((1, 1),)),
            None,
        ):
            self.assertFalse(stretch == other)
            self.assertTrue(stretch != other)

    def test_constructor_keeps_all(self):
        values = ([2, 4], "high", [True], {"speeds": 1})
        stretch = Stretch(*values)
        for name, value in zip(("low", "high", "word", "speeds"), values):
            self.assertIs(getattr(stretch, name), value)


class StretchOfTest(Case):
    def test_border(self):
        for row in two_gap_rows(204, 60):
            for top, bottom in border_ratios(row):
                for factor in (1, 3, (1, 7)):
                    told_factor = fractions([factor])[0]
                    gaps = [as_told(top * told_factor), as_told(bottom * told_factor)]
                    border = stretch_of(row, gaps)
                    self.assertIsInstance(border, Border)
                    self.assertEqual(border, run_of(row, gaps))

    def test_none_comes(self):
        self.is_same(stretch_of(NONE_COMES, [1, 1]), 0)
        self.is_same(stretch_of(Row([1, 1, 1], [0, 0, -1]), [1, 100]), 0)
        self.is_same(stretch_of(Row([1, 1, 1], [0, 0, -1]), (100, 1)), 0)

    def test_gaps(self):
        for thing in NO_SEQUENCES + ([], [1], [1, 2, 3]):
            self.refused(BadGaps, {"what": "length"}, stretch_of, ROW, thing)
        for thing in NO_RATIOS + (0, -1, (0, 1)):
            self.refused(BadGaps, {"what": "gap"}, stretch_of, ROW, [1, thing])


class TwoGapsTest(Case):
    def test_two_gaps_first(self):
        for row in OTHER_WIDTHS:
            self.refused(TwoGaps, {}, border_ratios, row)
            self.refused(TwoGaps, {}, all_stretches, row)
            for gaps in (None, [1] * row.gap_count, [0, 0]):
                self.refused(TwoGaps, {}, stretch_of, row, gaps)
            for thing in (None, [], [Stretch((0, 1), None, (), row.speeds)]):
                self.refused(TwoGaps, {}, stretches_fault, row, thing)
            closings_of(row)


class StretchesFaultTest(Case):
    def setUp(self):
        self.one, self.other = all_stretches(ROW)

    def changed(self, stretch, **more):
        values = {"low": stretch.low, "high": stretch.high, "word": stretch.word, "speeds": stretch.speeds}
        values.update(more)
        return Stretch(**values)

    def fault(self, *stretches, row=ROW):
        as_list, as_tuple = stretches_fault(row, list(stretches)), stretches_fault(row, tuple(stretches))
        self.is_same(as_list, as_tuple)
        return as_tuple

    def test_right(self):
        self.assertIsNone(self.fault(self.one, self.other))
        for row in two_gap_rows(205, 60):
            self.assertIsNone(self.fault(*all_stretches(row), row=row))

    def test_no_stretches(self):
        for thing in NO_SEQUENCES + ([], (), "", self.one, [None], [contents(self.one), self.other]):
            self.is_same(stretches_fault(ROW, thing), "order")
        self.is_same(self.fault(self.one, None), "order")

    def test_order(self):
        one, other = self.one, self.other
        for low in NO_RATIOS + (0, (0, 2), [0, 1], (-1, 1), (-1, 2), (1, 1), (2, 1), (False, 1)):
            self.is_same(self.fault(self.changed(one, low=low), other), "order")
        for high in NO_RATIOS + (1, (2, 2), [1, 1], (0, 1), (-1, 1), (True, 1)):
            self.is_same(self.fault(self.changed(one, high=high), other), "order")
        for high in (1, (2, 2), (1, 1), (1, 2), True, "no"):
            self.is_same(self.fault(one, self.changed(other, high=high)), "order")
        self.is_same(self.fault(self.changed(one, high=None), other), "order")
        self.is_same(self.fault(self.changed(one, high=None)), "word")

    def test_hole(self):
        one, other = self.one, self.other
        self.is_same(self.fault(one), "hole")
        self.is_same(self.fault(other), "hole")
        self.is_same(self.fault(other, one), "order")
        self.is_same(self.fault(self.changed(one, low=(1, 2)), other), "hole")
        self.is_same(self.fault(one, self.changed(other, high=(2, 1))), "hole")
        self.is_same(self.fault(one, self.changed(other, low=(2, 1))), "hole")
        self.is_same(self.fault(one, self.changed(other, low=(1, 2))), "hole")
        self.is_same(self.fault(one, one, other), "hole")

    def test_border(self):
        one, other = self.one, self.other
        self.is_same(self.fault(self.changed(one, high=(2, 1)), self.changed(other, low=(2, 1))), "border")
        middle = Stretch((1, 1), (2, 1), other.word, other.speeds)
        self.is_same(self.fault(one, middle, self.changed(other, low=(2, 1))), "border")
        whole = all_stretches(ONE_COMES)[0]
        halves = (self.changed(whole, high=(1, 1)), self.changed(whole, low=(1, 1)))
        self.is_same(self.fault(*halves, row=ONE_COMES), "border")

    def test_word(self):
        one, other = self.one, self.other
        for word in ([0, 1, 0, 1], (0, 1, 0), (0, 1, 0, 1, 0), (1, 0, 1, 0), (), None, 7, "0101", (0, True, 0, 1),
                     (False, 1, 0, 1), (0, 1, 0, (1,)), (0, 1, 0, 1.0)):
            self.is_same(self.fault(self.changed(one, word=word), other), "word")
        self.is_same(self.fault(one, self.changed(other, word=one.word)), "word")
        # One stretch over the border ratio has no word at all, whatever it tells.
        for word in (one.word, other.word, (), None):
            self.is_same(self.fault(Stretch((0, 1), None, word, one.speeds)), "word")
        still = all_stretches(NONE_COMES)[0]
        for word in ([], (0,), None):
            self.is_same(self.fault(self.changed(still, word=word), row=NONE_COMES), "word")

    def test_speeds(self):
        one, other = self.one, self.other
        for speeds in (other.speeds, list(one.speeds), one.speeds[:2], (), None, one.speeds + ((0, 1),),
                       ((-58, 54),) + one.speeds[1:], ([-29, 27],) + one.speeds[1:]):
            self.is_same(self.fault(self.changed(one, speeds=speeds), other), "speeds")
        still = all_stretches(NONE_COMES)[0]
        self.is_same(self.fault(self.changed(still, speeds=(-1, 0, 1)), row=NONE_COMES), "speeds")
        self.is_same(self.fault(self.changed(still, speeds=((-1, True), (0, 1), (1, 1))), row=NONE_COMES), "speeds")

    def test_each_word_of_all_stretches_first(self):
        one, other = self.one, self.other
        ill = {"word": (), "speeds": ()}
        self.is_same(self.fault(self.changed(one, speeds=()), self.changed(other, word=())), "word")
        for low, high, behind, word in (
            ((0, 1), (2, 1), (2, 1), "border"),
            ((0, 1), (3, 1), (2, 1), "hole"),
            ((1, 2), (1, 1), 2, "order"),
        ):
            parts = self.changed(one, low=low, high=high, **ill), self.changed(other, low=behind, **ill)
            self.is_same(self.fault(*parts), word)
        self.is_same(self.fault(self.changed(one, low=(1, 2), **ill), None), "order")

    def test_right_ones_alone(self):
        """None exactly if the tuple of them is what all_stretches returns."""
        chance = Random(206)
        rows = list(two_gap_rows(207, 40))
        for row in rows:
            goal = all_stretches(row)
            other = all_stretches(chance.choice(rows))
            is_none = stretches_fault(row, other) is None
            self.is_same(is_none, tuple(other) == goal)


if __name__ == "__main__":
    unittest.main()
