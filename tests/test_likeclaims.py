"""[6.11] Claims that like balls settle."""

import unittest
from random import Random

from helping import NO_SEQUENCES, Case
from oracle import claim_is_true, fractions, whole_run
from samples import gaps_of_many, narrow_row, some_claim, some_row

from untoldgaps.errors import BadClaim, NotSettled, Unlike
from untoldgaps.likeballs import like_counts, like_end, like_moments
from untoldgaps.likeclaims import decide_like, like_meetings
from untoldgaps.rows import Row
from untoldgaps.runs import Run, run_of
from untoldgaps.verdicts import Never, Sure, decide_claim

ROW = Row((1, 1, 1), (1, 0, -1))
WALLED = Row((5, 5, 5), (0, -1, 2), True)
UNLIKE = Row([1, 1, 2], [1, 0, -1])
JOINED = ("not", "both", "either")


def like_row(chance, most=6):
    row = some_row(chance, most=most, size=chance.choice((1, 3)), parts=chance.choice((1, 3)))
    return Row([chance.choice((1, 4, 9))] * len(row), row.speeds, row.wall)


def first_unsettled(claim):
    """The word of the first claim that is not settled, in the order of reading, or None."""
    if claim[0] in JOINED:
        for part in claim[1:]:
            told = first_unsettled(part)
            if told is not None:
                return told
        return None
    if claim[0] in ("meets", "count", "speed") or claim[:2] == ("times", -1):
        return None
    return claim[0]


def settled_claim(chance, row, depth):
    claim = some_claim(chance, row, depth)
    while first_unsettled(claim) is not None:
        claim = some_claim(chance, row, depth)
    return claim


class MeetingsTest(Case):
    def test_some(self):
        self.is_same(like_meetings(WALLED), (-1, 0))
        self.is_same(like_meetings(ROW), (0, 1))
        self.is_same(like_meetings(Row([1] * 4, [1, 0, 2, 2])), (0,))
        self.is_same(like_meetings(Row([1] * 4, [1, 1, 2, 2])), ())
        self.is_same(like_meetings(Row([1] * 4, [1, 2, 0, 3])), (0, 1))
        self.is_same(like_meetings(Row([1] * 3, [0, 1, 2], True)), ())
        self.is_same(like_meetings(Row([1] * 3, [0, 1, -2], True)), (-1, 0, 1))
        # A ball comes back from the wall, slower or quicker than those behind it.
        self.is_same(like_meetings(Row([1] * 3, [-1, 1, 2], True)), (-1,))
        self.is_same(like_meetings(Row([1] * 3, [(-3, 2), 1, 2], True)), (-1, 0))
        self.is_same(like_meetings(Row([1], [-1], True)), (-1,))
        self.is_same(like_meetings(Row([1], [1], True)), ())
        self.is_same(like_meetings(Row([1, 1], [0, 0])), ())

    def test_against_runs(self):
        chance = Random(421)
        seen = {True: 0, False: 0}
        for _ in range(400):
            row = like_row(chance)
            clashes, border, _ = whole_run(row, [chance.randint(1, 60) for _ in row.pairs])
            if border is None:
                self.is_same(like_meetings(row), tuple(sorted({pair for _, pair, _ in clashes})))
                seen[row.wall] += 1
        self.assertGreater(min(seen.values()), 100)

    def test_forty_balls(self):
        chance = Random(422)
        runs = 0
        for wall in (False, True):
            for size in (1, 9):
                speeds = [chance.choice((0, 0, -1, 1)) * chance.randint(0, size) + ball for ball in range(40)]
                row = Row([2] * 40, [(speed - 12 * (size - 1), 5) for speed in speeds], wall)
                told = like_meetings(row)
                gaps = gaps_of_many(row)
                met = {pair for _, pairs in like_moments(row, gaps) for pair in pairs}
                self.is_same(told, tuple(sorted(met)))
                if sum(like_counts(row)) <= 800:
                    run = run_of(row, gaps)
                    self.assertIs(run.__class__, Run)
                    self.assertEqual(set(run.word), set(told))
                    runs += 1
        self.assertGreater(runs, 1)


class DecideTest(Case):
    def decides(self, row, claim, holds):
        told = decide_like(row, claim)
        self.assertIs(told.__class__, Sure if holds else Never, claim)
        self.assertTrue(told == (Sure() if holds else Never()))

    def test_each_kind(self):
        for claim, holds in (
            (("meets", -1), True),
            (("meets", 0), True),
            (("meets", 1), False),
            (("count", 3, 3), True),
            (("count", 0, 2), False),
            (("count", 4, None), False),
            (("count", 0, None), True),
            (("times", -1, 1, 1), True),
            (("times", -1, 2, None), False),
            (("times", -1, 0, 0), False),
            (("speed", 0, 0, 0), True),
            (("speed", 1, 1, None), True),
            (("speed", 2, None, 1), False),
            (("speed", 2, (3, 2), 2), True),
            (("not", ("meets", 0)), False),
            (("both", ("meets", 0), ("count", 3, 3)), True),
            (("both", ("meets", 0), ("count", 4, 4)), False),
            (("either", ("meets", 1), ("times", -1, 1, None)), True),
            (("either", ("meets", 1), ("times", -1, 3, None)), False),
        ):
            self.decides(WALLED, claim, holds)

    def test_against_decide_claim(self):
        chance = Random(423)
        seen = {}
        for _ in range(400):
            row = narrow_row(chance)
            row = Row([row.weights[0]] * len(row), row.speeds, row.wall)
            claim = settled_claim(chance, row, chance.randint(0, 4))
            told = decide_like(row, claim)
            self.assertTrue(told == decide_claim(row, claim), (row.speeds, row.wall, claim))
            key = (claim[0], told.__class__)
            seen[key] = seen.get(key, 0) + 1
        self.assertEqual(len(seen), 14)

    def test_many_balls(self):
        """Against the end, the counts and the moments of runs of many balls."""
        chance = Random(424)
        for wall in (False, True):
            row = Row([2] * 40, [(chance.randint(-20, 20), 3) for _ in range(40)], wall)
            met = {pair for _, pairs in like_moments(row, gaps_of_many(row)) for pair in pairs}
            for pair in row.pairs:
                self.decides(row, ("meets", pair), pair in met)
            count = sum(like_counts(row))
            self.assertGreater(count, 150)
            for least, most in ((count, count), (0, count - 1), (count + 1, None), (count, None)):
                self.decides(row, ("count", least, most), least <= count and (most is None or count <= most))
            for ball, speed in enumerate(like_end(row)):
                self.decides(row, ("speed", ball, speed, speed), True)
                self.decides(row, ("speed", ball, None, (speed[0] - 1, speed[1])), False)
            if wall:
                walls = len([1 for speed in fractions(row.speeds) if speed < 0])
                self.decides(row, ("times", -1, walls, walls), True)
                self.decides(row, ("times", -1, walls + 1, None), False)

    def test_against_runs(self):
        chance = Random(425)
        for _ in range(200):
            row = like_row(chance)
            clashes, border, world = whole_run(row, [chance.randint(1, 60) for _ in row.pairs])
            if border is None:
                claim = settled_claim(chance, row, chance.randint(0, 3))
                word = [pair for _, pair, _ in clashes]
                speeds = [(speed.numerator, speed.denominator) for speed in world.speeds]
                self.decides(row, claim, claim_is_true(claim, word, speeds))


class ErrorsTest(Case):
    def unsettled(self, kind, claim, row=WALLED):
        self.refused(NotSettled, {"kind": kind}, decide_like, row, claim)

    def test_not_settled(self):
        self.unsettled("first", ("first", 0))
        self.unsettled("ahead", ("ahead", 0, 1))
        self.unsettled("times", ("times", 0, 0, None))
        # Also what surely never holds, and where the claims beside it would decide.
        self.unsettled("ahead", ("ahead", 0, 0))
        self.unsettled("times", ("times", 1, 2, 0))
        self.unsettled("first", ("both", ("meets", 1), ("first", 0)))
        self.unsettled("ahead", ("either", ("meets", 0), ("ahead", 0, 1)))
        self.unsettled("times", ("times", 0, 0, None), ROW)

    def test_first_in_order_of_reading(self):
        first, ahead, times = ("first", 0), ("ahead", 0, 1), ("times", 0, 0, None)
        self.unsettled("first", ("both", first, ahead))
        self.unsettled("ahead", ("both", ahead, first))
        self.unsettled("times", ("either", ("not", ("both", ("meets", 0), times)), first))
        self.unsettled("ahead", ("either", ("times", -1, 0, 0), ("both", ("not", ahead), times)))
        chance = Random(426)
        seen = {}
        for _ in range(500):
            row = like_row(chance)
            claim = some_claim(chance, row)
            kind = first_unsettled(claim)
            seen[kind] = seen.get(kind, 0) + 1
            if kind is None:
                self.assertIn(decide_like(row, claim).__class__, (Sure, Never))
            else:
                self.unsettled(kind, claim, row)
        self.assertGreater(min(seen.values()), 20)
        self.assertEqual(set(seen), {None, "first", "ahead", "times"})

    def test_unlike_first(self):
        for claim in (None, ("first", 0), ("meets", 9), ("meets", 0)):
            self.refused(Unlike, {}, decide_like, UNLIKE, claim)
        self.refused(Unlike, {}, like_meetings, UNLIKE)
        self.refused(Unlike, {}, like_meetings, Row([1] * 39 + [2], [0] * 40, True))

    def test_bad_claims_ahead_of_unsettled_ones(self):
        for thing in NO_SEQUENCES + ((), ["meets", 0], ("with", 0, 1)):
            self.refused(BadClaim, {"what": "kind"}, decide_like, ROW, thing)
        self.refused(BadClaim, {"what": "pair"}, decide_like, ROW, ("both", ("first", 0), ("meets", 2)))
        self.refused(BadClaim, {"what": "pair"}, decide_like, ROW, ("times", -1, 0, None))
        self.refused(BadClaim, {"what": "bound"}, decide_like, ROW, ("both", ("first", 0), ("speed", 0, True, 1)))
        self.refused(BadClaim, {"what": "number"}, decide_like, ROW, ("either", ("ahead", 0, 1), ("count", -1, 1)))


if __name__ == "__main__":
    unittest.main()
