"""[6.7] to [6.9] Ends, extreme speeds and numbers of clashes."""

import inspect
import unittest
from fractions import Fraction
from random import Random
from unittest.mock import patch

from helping import NO_WHOLES, Case, as_told
from oracle import claim_is_true, fractions, whole_run
from samples import narrow_row, narrow_rows, some_claim

from untoldgaps import wedges
from untoldgaps.clashing import coming_pairs
from untoldgaps.ends import Extremes, all_ends, ends_with, fewest_clashes, most_clashes, speed_extremes
from untoldgaps.errors import BadClaim, Long, NoBall, TooMany, Wide
from untoldgaps.rows import Row
from untoldgaps.wedges import all_wedges, wedge_of

ROW = Row((2, 1, 2), (1, 0, -1))
WIDE = Row([1] * 5, [0] * 5)
CALLS = (
    all_ends,
    lambda row, **more: ends_with(row, ("count", 0, None), **more),
    lambda row, **more: speed_extremes(row, 0, **more),
    fewest_clashes,
    most_clashes,
)


def runs_of(row):
    """The word and the end speeds of each wedge, by the run of its gaps."""
    for wedge in all_wedges(row):
        clashes, _, world = whole_run(row, wedge.gaps)
        yield tuple([pair for _, pair, _ in clashes]), tuple(world.speeds)


class EndsTest(Case):
    def test_example(self):
        self.is_same(all_ends(ROW), (((-29, 27), (32, 81), (71, 81)), ((-71, 81), (-32, 81), (29, 27))))

    def test_each_once_and_ascending(self):
        several = 0
        for row in narrow_rows(311, 150):
            ends = all_ends(row)
            for end in ends:
                self.are_told(end)
            values = [fractions(end) for end in ends]
            self.assertEqual(values, sorted(values))
            expected = {tuple([as_told(speed) for speed in speeds]) for _, speeds in runs_of(row)}
            self.assertEqual(len(ends), len(expected))
            self.assertEqual(set(ends), expected)
            several += len(ends) > 1
        self.assertGreater(several, 20)

    def test_ascending_by_value(self):
        # 1/3 comes ahead of 1/2, although 3 is more than 2: both first speeds come up here.
        seen = 0
        for row in narrow_rows(312, 200):
            ends = all_ends(row)
            seen += sorted(ends) != list(ends)
        self.assertGreater(seen, 5)

    def test_one_end(self):
        row = Row([1, 1, 1], [3, 2, 1])
        self.is_same(all_ends(row), (((1, 1), (2, 1), (3, 1)),))
        self.is_same(all_ends(row.turned()), (row.turned().speeds,))

    def test_sums(self):
        for row in narrow_rows(313, 60):
            for end in all_ends(row):
                told = row.with_speeds(end)
                self.assertEqual(told.second_sum, row.second_sum)
                if not row.wall:
                    self.assertEqual(told.first_sum, row.first_sum)

    def test_way_back(self):
        seen = 0
        for row in narrow_rows(314, 300):
            if coming_pairs(row.turned()):
                continue
            seen += len(all_wedges(row)) > 1
            for end in all_ends(row):
                self.assertIn(row.turned().speeds, all_ends(row.with_speeds(end).turned()))
        self.assertGreater(seen, 5)

    def test_ends_with(self):
        self.is_same(ends_with(ROW, ("first", 0)), (((-29, 27), (32, 81), (71, 81)),))
        self.is_same(ends_with(ROW, ("first", 1)), (((-71, 81), (-32, 81), (29, 27)),))
        self.is_same(ends_with(ROW, ("count", 9, None)), ())
        self.is_same(ends_with(ROW, ("count", 0, None)), all_ends(ROW))
        chance = Random(315)
        for row in narrow_rows(316, 100):
            claim = some_claim(chance, row, chance.randint(0, 3))
            held = set()
            for word, speeds in runs_of(row):
                told = tuple([as_told(speed) for speed in speeds])
                if claim_is_true(claim, word, told):
                    held.add(told)
            self.is_same(ends_with(row, claim), tuple([end for end in all_ends(row) if end in held]))


class ExtremesTest(Case):
    def test_some(self):
        told = speed_extremes(ROW, 1)
        self.is_same((told.least, told.greatest), ((-32, 81), (32, 81)))
        self.assertGreater(told.least_gaps[0], told.least_gaps[1])
        self.assertLess(told.greatest_gaps[0], told.greatest_gaps[1])
        still = speed_extremes(Row([1, 2], [0, (2, 4)]), 1)
        self.is_same((still.least, still.greatest), ((1, 2), (1, 2)))

    def test_against_runs(self):
        apart = 0
        for row in narrow_rows(317, 80):
            for ball in range(len(row)):
                speeds = [speeds[ball] for _, speeds in runs_of(row)]
                told = speed_extremes(row, ball)
                self.assertIs(told.__class__, Extremes)
                self.is_same((told.least, told.greatest), (as_told(min(speeds)), as_told(max(speeds))))
                for gaps, value in ((told.least_gaps, told.least), (told.greatest_gaps, told.greatest)):
                    self.assertIs(wedge_of(row, gaps).__class__, int)
                    _, _, world = whole_run(row, gaps)
                    self.assertEqual(world.speeds[ball], Fraction(*value))
                apart += told.least != told.greatest
        self.assertGreater(apart, 20)

    def test_equality(self):
        values = dict(least=(0, 1), least_gaps=(1, 2), greatest=(1, 1), greatest_gaps=(2, 1))
        told = Extremes(**values)
        self.assertTrue(told == Extremes(**values))
        for name in values:
            other = Extremes(**{**values, name: None})
            self.assertFalse(told == other, name)
            self.assertTrue(told != other, name)
        self.assertFalse(told == tuple(values.values()))

    def test_constructor_keeps_all(self):
        values = ([1], "gaps", None, {1: 2})
        told = Extremes(*values)
        for name, value in zip(("least", "least_gaps", "greatest", "greatest_gaps"), values):
            self.assertIs(getattr(told, name), value)

    def test_no_ball(self):
        for thing in NO_WHOLES + (-1, 3):
            self.refused(NoBall, {"ball": thing}, speed_extremes, ROW, thing, most=0)
            self.refused(Wide, {}, speed_extremes, WIDE, thing, most=0)


class ClashesTest(Case):
    def test_some(self):
        row = Row([1, 1, 2], [5, 0, -1])
        many, gaps = most_clashes(row)
        few, others = fewest_clashes(row)
        self.is_same((few, many), (3, 4))
        self.assertEqual([len(whole_run(row, each)[0]) for each in (others, gaps)], [3, 4])
        self.is_same(fewest_clashes(Row([1, 1], [0, 0]))[0], 0)

    def test_against_runs(self):
        apart = 0
        for row in narrow_rows(318, 300):
            counts = [len(word) for word, _ in runs_of(row)]
            for told, expected in ((fewest_clashes(row), min(counts)), (most_clashes(row), max(counts))):
                self.assertIs(told.__class__, tuple)
                number, gaps = told
                self.is_same(number, expected)
                self.assertIs(wedge_of(row, gaps).__class__, int)
                self.assertEqual(len(whole_run(row, gaps)[0]), number)
            apart += min(counts) != max(counts)
        self.assertGreater(apart, 15)

    def test_no_run_passes_them(self):
        chance = Random(319)
        for _ in range(200):
            row = narrow_row(chance, weights=3, size=3, parts=1)
            clashes, border, _ = whole_run(row, [chance.randint(1, 3) for _ in row.pairs])
            if border is None:
                self.assertTrue(fewest_clashes(row)[0] <= len(clashes) <= most_clashes(row)[0])


class ErrorsTest(Case):
    def test_wide_first(self):
        for call in CALLS:
            self.refused(Wide, {}, call, WIDE, most=0)
        self.refused(Wide, {}, ends_with, WIDE, None)

    def test_bad_claim(self):
        self.refused(BadClaim, {"what": "kind"}, ends_with, ROW, ["first", 0], most=0)
        self.refused(BadClaim, {"what": "pair"}, ends_with, ROW, ("first", 2), most=0)
        deep = ("not", ("not", ("not", ("not", ("not", ("first", 0))))))
        self.refused(BadClaim, {"what": "deep"}, ends_with, ROW, deep, most=0)

    def test_most(self):
        for row in (ROW, *narrow_rows(320, 15)):
            count = len(all_wedges(row))
            for call in CALLS:
                call(row)
                call(row, most=count)
                self.refused(TooMany, {"most": count - 1}, call, row, most=count - 1)

    def test_long(self):
        with patch.object(wedges, "MOST_CLASHES", 3):
            for call in CALLS:
                self.refused(Long, {"count": 3}, call, ROW)

    def test_most_left_out(self):
        for call in (all_ends, ends_with, speed_extremes, fewest_clashes, most_clashes):
            parameter = inspect.signature(call).parameters["most"]
            self.is_same((parameter.default, parameter.kind.name), (400, "KEYWORD_ONLY"))


if __name__ == "__main__":
    unittest.main()
