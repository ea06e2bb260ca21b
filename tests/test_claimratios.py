"""[6.10] The ratios of two gaps at which a claim holds."""

import unittest
from fractions import Fraction
from random import Random

from helping import NO_SEQUENCES, Case, as_told
from oracle import claim_is_true, whole_run
from samples import OTHER_WIDTHS, some_claim, two_gap_rows

from untoldgaps.claimratios import ratios_with
from untoldgaps.errors import BadClaim, TwoGaps
from untoldgaps.rows import Row
from untoldgaps.stretches import border_ratios

ROW = Row((1, 1, 1), (2, 0, -1))
EVERYWHERE = (((0, 1), None),)


class RatiosWithTest(Case):
    def test_example(self):
        self.is_same(ratios_with(Row((1, 1, 1), (1, 0, -1)), ("first", 0)), (((0, 1), (1, 1)),))

    def test_one_side(self):
        self.is_same(ratios_with(ROW, ("first", 0)), (((0, 1), (2, 1)),))
        self.is_same(ratios_with(ROW, ("first", 1)), (((2, 1), None),))
        self.is_same(ratios_with(ROW, ("not", ("first", 0))), (((2, 1), None),))

    def test_joined(self):
        for claim in (("count", 3, 3), ("meets", 0), ("speed", 0, -1, -1), ("either", ("first", 0), ("first", 1))):
            self.is_same(ratios_with(ROW, claim), EVERYWHERE)

    def test_nowhere(self):
        for claim in (("count", 0, 2), ("count", 3, 2), ("ahead", 0, 0), ("both", ("first", 0), ("first", 1))):
            self.is_same(ratios_with(ROW, claim), ())

    def test_one_stretch(self):
        row = Row([2, 1, 2], [-1, 0, 1])
        self.is_same(ratios_with(row, ("count", 0, 0)), EVERYWHERE)
        self.is_same(ratios_with(row, ("meets", 1)), ())
        row = Row([3, 1], [-1, 0], True)
        self.is_same(ratios_with(row, ("first", -1)), EVERYWHERE)

    def test_against_runs(self):
        chance = Random(321)
        seen = {}
        for row in two_gap_rows(322, 900):
            claim = some_claim(chance, row, chance.randint(0, 3))
            told = ratios_with(row, claim)
            self.assertIs(told.__class__, tuple)
            seen[told != EVERYWHERE, len(told)] = seen.get((told != EVERYWHERE, len(told)), 0) + 1
            borders = [Fraction(*ratio) for ratio in border_ratios(row)]
            tries = [Fraction(1, 50), Fraction(1), Fraction(50)]
            tries += [border + small for border in borders for small in (Fraction(1, 999), -Fraction(1, 999) * border)]
            for ratio in tries:
                if ratio in borders:
                    continue
                clashes, _, world = whole_run(row, [as_told(ratio * 3), 3])
                speeds = [as_told(speed) for speed in world.speeds]
                holds = claim_is_true(claim, [pair for _, pair, _ in clashes], speeds)
                inside = [
                    Fraction(*low) < ratio and (high is None or ratio < Fraction(*high)) for low, high in told
                ]
                self.is_same(any(inside), holds)
        self.assertEqual(set(seen), {(False, 1), (True, 0), (True, 1)})
        self.assertGreater(min(seen.values()), 20)

    def test_errors_in_their_order(self):
        for row in OTHER_WIDTHS:
            for claim in (None, ("meets", 99), ("meets", row.pairs[0])):
                self.refused(TwoGaps, {}, ratios_with, row, claim)
        for thing in NO_SEQUENCES + (["first", 0], (), ("first",)):
            self.refused(BadClaim, {"what": "kind"}, ratios_with, ROW, thing)
        self.refused(BadClaim, {"what": "pair"}, ratios_with, ROW, ("first", -1))
        self.refused(BadClaim, {"what": "ball"}, ratios_with, ROW, ("speed", 3, True, 0))
        self.refused(BadClaim, {"what": "number"}, ratios_with, ROW, ("count", True, 0))
        self.refused(BadClaim, {"what": "bound"}, ratios_with, ROW, ("speed", 2, None, [1, 2]))


if __name__ == "__main__":
    unittest.main()
