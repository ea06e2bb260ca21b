"""[6.4] to [6.6], [6.9] Verdicts on claims for all gaps."""

import inspect
import unittest
from random import Random
from unittest.mock import patch

from helping import NO_SEQUENCES, Case
from oracle import claim_is_true, whole_run
from samples import narrow_row, narrow_rows, some_claim, some_gaps

from untoldgaps import wedges
from untoldgaps.errors import BadClaim, Long, TooMany, Wide
from untoldgaps.rows import Row, check_gaps
from untoldgaps.verdicts import (
    Mixed,
    Never,
    Sure,
    claim_follows,
    clash_ranges,
    decide_claim,
    sure_firsts,
    wedges_with,
)
from untoldgaps.wedges import all_wedges, wedge_of

ROW = Row((1, 1, 1), (1, 0, -1))
FOUR = Row((1, 1, 1, 1), (1, 0, 0, -1))
WIDE = Row([1] * 5, [0] * 5)
CALLS = (
    lambda row, **more: decide_claim(row, ("count", 0, None), **more),
    lambda row, **more: wedges_with(row, ("count", 0, None), **more),
    lambda row, **more: claim_follows(row, ("count", 0, None), ("count", 0, None), **more),
    clash_ranges,
    sure_firsts,
)


class VerdictCase(Case):
    def is_true_at(self, row, claim, gaps):
        """Whether a claim holds for gaps that lie in a wedge, by their run."""
        check_gaps(row, gaps)
        self.assertIs(wedge_of(row, gaps).__class__, int)
        clashes, border, world = whole_run(row, gaps)
        self.assertIsNone(border)
        speeds = [(speed.numerator, speed.denominator) for speed in world.speeds]
        return claim_is_true(claim, [pair for _, pair, _ in clashes], speeds)

    def judged(self, row, claim):
        """For each wedge whether the claim holds, by the run of its gaps."""
        return [self.is_true_at(row, claim, wedge.gaps) for wedge in all_wedges(row)]


class DecideClaimTest(VerdictCase):
    def test_examples(self):
        self.assertTrue(decide_claim(ROW, ("count", 3, 3)) == Sure())
        self.assertTrue(decide_claim(ROW, ("count", 0, 2)) == Never())
        told = decide_claim(ROW, ("first", 0))
        self.assertIs(told.__class__, Mixed)
        self.assertLess(told.yes[0], told.yes[1])
        self.assertGreater(told.no[0], told.no[1])

    def test_against_all_wedges(self):
        chance = Random(301)
        seen = {Sure: 0, Never: 0, Mixed: 0}
        for row in narrow_rows(302, 500):
            claim = some_claim(chance, row, chance.randint(0, 4))
            judged = self.judged(row, claim)
            told = decide_claim(row, claim)
            seen[told.__class__] += 1
            self.is_same(told == Sure(), all(judged))
            self.is_same(told == Never(), not any(judged))
            if isinstance(told, Mixed):
                self.assertIs(told.yes.__class__, tuple)
                self.assertIs(told.no.__class__, tuple)
                self.is_same(self.is_true_at(row, claim, told.yes), True)
                self.is_same(self.is_true_at(row, claim, told.no), False)
        self.assertGreater(min(seen.values()), 20)

    def test_gaps_on_levels(self):
        """What is Sure holds for all gaps on no border, and what is Never for none of them."""
        chance = Random(303)
        levels = 0
        for _ in range(400):
            row = narrow_row(chance, 3, weights=2, size=2, parts=1)
            claim = some_claim(chance, row, chance.randint(0, 2))
            clashes, border, world = whole_run(row, some_gaps(chance, row, 2))
            if border:
                continue
            word = [pair for _, pair, _ in clashes]
            speeds = [(speed.numerator, speed.denominator) for speed in world.speeds]
            holds = claim_is_true(claim, word, speeds)
            self.assertNotEqual(decide_claim(row, claim), Never() if holds else Sure())
            moments = [moment for moment, _, _ in clashes]
            levels += len(set(moments)) < len(moments)
        self.assertGreater(levels, 10)

    def test_no_clash(self):
        row = Row([1, 2], [0, 1])
        self.assertEqual(decide_claim(row, ("count", 0, 0)), Sure())
        self.assertEqual(decide_claim(row, ("meets", 0)), Never())
        self.assertEqual(decide_claim(row, ("speed", 1, 1, 1)), Sure())

    def test_claims_that_never_hold(self):
        for claim in (("count", 4, 3), ("times", 0, 1, 0), ("speed", 0, 1, 0), ("ahead", 0, 0)):
            self.assertEqual(decide_claim(ROW, claim), Never())
            self.assertEqual(decide_claim(ROW, ("not", claim)), Sure())

    def test_a_claim_stays(self):
        claim = ("speed", 0, (2, 4), None)
        decide_claim(ROW, claim)
        self.is_same(claim, ("speed", 0, (2, 4), None))


class ResultsTest(Case):
    def test_equality(self):
        same = ((Sure(), Sure()), (Never(), Never()), (Mixed((1,), (2,)), Mixed((1,), (2,))))
        for one, other in same:
            self.assertTrue(one == other)
            self.assertFalse(one != other)
        for one, other in (
            (Sure(), Never()),
            (Never(), Sure()),
            (Sure(), True),
            (Never(), False),
            (Sure(), Mixed((1,), (2,))),
            (Never(), None),
            (Mixed((1,), (2,)), Mixed((2,), (2,))),
            (Mixed((1,), (2,)), Mixed((1,), (1,))),
            (Mixed((1,), (2,)), ((1,), (2,))),
        ):
            self.assertFalse(one == other)
            self.assertTrue(one != other)

    def test_constructor_keeps_all(self):
        yes, no = [1], None
        told = Mixed(yes, no)
        self.assertIs(told.yes, yes)
        self.assertIs(told.no, no)


class WedgesWithTest(VerdictCase):
    def test_some(self):
        self.is_same(wedges_with(FOUR, ("first", 0)), (0, 1))
        self.is_same(wedges_with(FOUR, ("times", 1, 2, None)), (0, 3))
        self.is_same(wedges_with(FOUR, ("times", 1, 3, None)), ())
        self.is_same(wedges_with(FOUR, ("count", 5, 5)), (0, 1, 2, 3))
        self.is_same(wedges_with(FOUR, ("either", ("times", 0, 1, 1), ("times", 2, 1, 1))), (0, 3))
        self.is_same(wedges_with(FOUR, ("both", ("times", 0, 2, 2), ("times", 2, 1, 1))), (0,))

    def test_against_runs(self):
        chance = Random(304)
        for row in narrow_rows(305, 120):
            claim = some_claim(chance, row, chance.randint(0, 3))
            judged = self.judged(row, claim)
            self.is_same(wedges_with(row, claim), tuple([at for at, holds in enumerate(judged) if holds]))


class ClaimFollowsTest(VerdictCase):
    def test_some(self):
        self.assertIsNone(claim_follows(FOUR, ("first", 0), ("meets", 0)))
        gaps = claim_follows(FOUR, ("meets", 0), ("first", 0))
        self.is_same(self.is_true_at(FOUR, ("first", 0), gaps), False)
        # From what never holds all follows, and what is Sure follows from all.
        self.assertIsNone(claim_follows(FOUR, ("count", 1, 0), ("count", 1, 0)))
        self.assertIsNone(claim_follows(FOUR, ("first", 2), ("count", 5, 5)))

    def test_against_runs(self):
        chance = Random(306)
        seen = {True: 0, False: 0}
        for row in narrow_rows(307, 250):
            one, other = some_claim(chance, row, 2), some_claim(chance, row, 2)
            follows = all(not a or b for a, b in zip(self.judged(row, one), self.judged(row, other)))
            gaps = claim_follows(row, one, other)
            seen[follows] += 1
            self.is_same(gaps is None, follows)
            if gaps is not None:
                self.assertIs(gaps.__class__, tuple)
                self.is_same(self.is_true_at(row, one, gaps), True)
                self.is_same(self.is_true_at(row, other, gaps), False)
        self.assertGreater(min(seen.values()), 30)


class RangesTest(VerdictCase):
    def test_examples(self):
        self.is_same(clash_ranges(ROW), ((0, 1, 2), (1, 1, 2)))
        self.is_same(clash_ranges(FOUR), ((0, 1, 2), (1, 1, 2), (2, 1, 2)))
        self.is_same(clash_ranges(Row([1, 1], [-1, -2], True)), ((-1, 2, 2), (0, 2, 2)))
        self.is_same(clash_ranges(Row([1, 1], [1, 2], True)), ((-1, 0, 0), (0, 0, 0)))

    def test_against_runs(self):
        for row in narrow_rows(308, 100):
            words = []
            for wedge in all_wedges(row):
                clashes, _, _ = whole_run(row, wedge.gaps)
                words.append([pair for _, pair, _ in clashes])
            expected = []
            for pair in row.pairs:
                counts = sorted([word.count(pair) for word in words])
                expected.append((pair, counts[0], counts[-1]))
            self.is_same(clash_ranges(row), tuple(expected))


class SureFirstsTest(VerdictCase):
    def test_some(self):
        self.is_same(sure_firsts(ROW), ())
        self.is_same(sure_firsts(FOUR), ())
        self.is_same(sure_firsts(Row([1] * 4, [3, 0, 1, 2])), ((0, 1), (0, 2), (1, 2)))
        self.is_same(sure_firsts(Row([1], [-1], True)), ())
        self.is_same(sure_firsts(Row([1, 1], [-1, 0], True)), ((-1, 0),))

    def test_against_verdicts(self):
        found = 0
        for row in narrow_rows(309, 120):
            couples = [
                (one, other) for one in row.pairs for other in row.pairs if all(self.judged(row, ("ahead", one, other)))
            ]
            self.is_same(sure_firsts(row), tuple(couples))
            self.assertEqual(couples, sorted(couples))
            found += len(couples)
        self.assertGreater(found, 50)


class ErrorsTest(Case):
    def test_wide_first(self):
        for call in CALLS:
            self.refused(Wide, {}, call, WIDE, most=0)
        for claim in (None, ("meets", 9), ("meets", 0)):
            self.refused(Wide, {}, decide_claim, WIDE, claim)
            self.refused(Wide, {}, wedges_with, WIDE, claim)
            self.refused(Wide, {}, claim_follows, WIDE, claim, claim)

    def test_claims_ahead_of_many_wedges(self):
        for call in (decide_claim, wedges_with):
            for thing in NO_SEQUENCES + (["meets", 0], ()):
                self.refused(BadClaim, {"what": "kind"}, call, ROW, thing, most=0)
            self.refused(BadClaim, {"what": "pair"}, call, ROW, ("meets", 2), most=0)
            self.refused(BadClaim, {"what": "bound"}, call, ROW, ("speed", 0, True, None), most=0)
        good, pair, number = ("meets", 0), ("meets", 2), ("count", True, 3)
        self.refused(BadClaim, {"what": "pair"}, claim_follows, ROW, pair, number, most=0)
        self.refused(BadClaim, {"what": "number"}, claim_follows, ROW, number, pair, most=0)
        self.refused(BadClaim, {"what": "pair"}, claim_follows, ROW, good, pair, most=0)

    def test_most(self):
        for row in (ROW, FOUR, *narrow_rows(310, 10)):
            count = len(all_wedges(row))
            for call in CALLS:
                call(row)
                call(row, most=count)
                self.refused(TooMany, {"most": count - 1}, call, row, most=count - 1)

    def test_long(self):
        with patch.object(wedges, "MOST_CLASHES", 2):
            for call in CALLS:
                self.refused(Long, {"count": 2}, call, ROW)

    def test_most_left_out(self):
        for call in (decide_claim, wedges_with, claim_follows, clash_ranges, sure_firsts):
            parameter = inspect.signature(call).parameters["most"]
            self.is_same((parameter.default, parameter.kind.name), (400, "KEYWORD_ONLY"))


if __name__ == "__main__":
    unittest.main()
