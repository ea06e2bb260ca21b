"""[8.10] Claims about sticking runs."""

import unittest
from random import Random

from helping import NO_RATIOS, NO_SEQUENCES, NO_WHOLES, Case
from oracle import StickWorld, fractions
from samples import stick_row, stick_rows

from untoldgaps.errors import BadClaim, NoWall, Wide
from untoldgaps.rows import Row
from untoldgaps.stickclaims import check_stick_claim, decide_sticking
from untoldgaps.verdicts import Mixed, Never, Sure

ROW = Row([1, 1, 1], [3, 0, 1])
TWO = Row([1, 1, 1], [2, 1, 0])
WALLED = Row([1, 1, 1], [3, 0, 1], True)
WIDE = Row([1] * 5, [4, 3, 2, 1, 0])


def some_claim(chance, row):
    """A claim about sticking runs of a row."""
    balls = [chance.randrange(len(row)) for _ in range(2)]
    pairs = [chance.choice(row.pairs) for _ in range(2)]
    bounds = [chance.choice((None, chance.randint(-3, 3), (chance.randint(-9, 9), 3))) for _ in range(2)]
    return chance.choice((
        ("with", *balls),
        ("apart", *balls),
        ("mean", balls[0], *bounds),
        ("ahead", *pairs),
    ))


def is_true(row, gaps, claim):
    """Whether a claim holds in the sticking run over some gaps."""
    world = StickWorld(row, gaps).follow()
    if claim[0] == "ahead":
        one, other = [world.join_moments()[pair] for pair in claim[1:]]
        return one is not None and other is not None and one < other
    lot = [balls for balls in world.lots if claim[1] in balls][0]
    if claim[0] == "mean":
        mean = world.mean(lot)
        low, high = [mean if bound is None else fractions([bound])[0] for bound in claim[2:]]
        return low <= mean <= high
    return (claim[2] in lot) == (claim[0] == "with")


def has_ties(row, gaps):
    moments = [moment for moment in StickWorld(row, gaps).follow().join_moments() if moment is not None]
    return len(set(moments)) < len(moments)


class CheckTest(Case):
    def bad(self, what, claim, row=ROW):
        self.refused(BadClaim, {"what": what}, check_stick_claim, row, claim)
        self.refused(BadClaim, {"what": what}, decide_sticking, row, claim)

    def test_each_kind(self):
        for claim in (("with", 0, 2), ("with", 1, 1), ("apart", 2, 0), ("mean", 2, None, None), ("ahead", 0, 1),
                      ("ahead", 1, 1)):
            self.is_same(check_stick_claim(ROW, claim), claim)
        self.is_same(check_stick_claim(ROW, ("mean", 0, 3, (-2, 4))), ("mean", 0, (3, 1), (-1, 2)))
        self.is_same(check_stick_claim(ROW, ("mean", 1, (4, 2), None)), ("mean", 1, (2, 1), None))
        claim = ("mean", 0, (2, 4), None)
        decide_sticking(ROW, claim)
        self.is_same(claim, ("mean", 0, (2, 4), None))

    def test_wide_rows(self):
        row = Row([1] * 40, [0] * 40)
        for claim in (("with", 39, 0), ("ahead", 38, 0), ("mean", 39, (0, 1), None)):
            self.is_same(check_stick_claim(row, claim), claim)

    def test_kind(self):
        for claim in NO_SEQUENCES + (
            (),
            ["with", 0, 1],
            ("With", 0, 1),
            ("meets", 0),
            ("not", ("with", 0, 1)),
            (None, 0, 1),
            (["with"], 0, 1),
            (b"with", 0, 1),
            ({}, 0, 1),
            ("with",),
            ("with", 0),
            ("with", 0, 1, 2),
            ("apart", 9),
            ("apart", 0, 1, None),
            ("mean", 0, 1),
            ("mean", 0, None, None, None),
            ("ahead", 0),
            ("ahead", 0, 1, 1),
        ):
            self.bad("kind", claim)

    def test_entries(self):
        for thing in NO_WHOLES + (-1, 3, 10**30):
            self.bad("ball", ("with", thing, 0))
            self.bad("ball", ("with", 0, thing))
            self.bad("ball", ("apart", thing, None))
            self.bad("ball", ("apart", 2, thing))
            self.bad("ball", ("mean", thing, True, "x"))
        for thing in NO_WHOLES + (-1, 2, 10**30):
            self.bad("pair", ("ahead", thing, 0))
            self.bad("pair", ("ahead", 0, thing))
            self.bad("pair", ("ahead", thing, None))
        for thing in NO_RATIOS:
            if thing is not None:
                self.bad("bound", ("mean", 0, thing, None))
                self.bad("bound", ("mean", 0, None, thing))

    def test_walls_first(self):
        for claim in (None, ("with", 9, 9), ("with", 0, 1), ("ahead", 0, 1)):
            self.refused(NoWall, {}, check_stick_claim, WALLED, claim)
            self.refused(NoWall, {}, decide_sticking, WALLED, claim)
        self.refused(NoWall, {}, decide_sticking, Row([1] * 9, [0] * 9, True), ("ahead", 0, 1))


class DecideTest(Case):
    def test_some(self):
        for claim, row, verdict in (
            (("with", 0, 2), ROW, Sure()),
            (("apart", 0, 2), ROW, Never()),
            (("with", 1, 1), ROW, Sure()),
            (("apart", 1, 1), ROW, Never()),
            (("apart", 1, 2), Row([1] * 3, [3, 0, 2]), Sure()),
            (("with", 1, 2), Row([1] * 3, [3, 0, 2]), Never()),
            (("with", 0, 1), Row([1] * 3, [1, 1, 2]), Never()),
            (("mean", 0, (4, 3), (4, 3)), ROW, Sure()),
            (("mean", 2, None, (5, 4)), ROW, Never()),
            (("mean", 2, None, None), ROW, Sure()),
            (("mean", 2, 2, 1), ROW, Never()),
            (("mean", 2, 1, 2), ROW, Sure()),
            (("ahead", 0, 1), ROW, Sure()),
            (("ahead", 1, 0), ROW, Never()),
            (("ahead", 0, 0), ROW, Never()),
            (("ahead", 0, 1), Row([1] * 3, [1, 0, 3]), Never()),
            (("ahead", 1, 0), Row([1] * 3, [1, 0, 3]), Never()),
            (("ahead", 0, 1), Row([1] * 3, [0, 1, 3]), Never()),
        ):
            self.assertTrue(decide_sticking(row, claim) == verdict, claim)

    def test_mixed(self):
        told = decide_sticking(TWO, ("ahead", 0, 1))
        self.assertIs(told.__class__, Mixed)
        self.are_told(told.yes)
        self.are_told(told.no)
        self.assertTrue(is_true(TWO, told.yes, ("ahead", 0, 1)))
        self.assertTrue(is_true(TWO, told.no, ("ahead", 1, 0)))

    def test_against_runs(self):
        chance = Random(471)
        seen = {}
        for row in stick_rows(472, 600, most=4):
            claim = some_claim(chance, row)
            told = decide_sticking(row, claim)
            for _ in range(8):
                gaps = [(chance.randint(1, 99), chance.choice((1, 10, 100))) for _ in row.pairs]
                if not (claim[0] == "ahead" and has_ties(row, gaps)):
                    self.assertFalse(told == (Never() if is_true(row, gaps, claim) else Sure()), claim)
            if isinstance(told, Mixed):
                self.assertEqual(claim[0], "ahead")
                for gaps, holds in ((told.yes, True), (told.no, False)):
                    self.are_told(gaps)
                    self.assertEqual(len(gaps), row.gap_count)
                    self.assertFalse(has_ties(row, gaps))
                    self.is_same(is_true(row, gaps, claim), holds)
            key = (claim[0], told.__class__)
            seen[key] = seen.get(key, 0) + 1
        self.assertEqual(len(seen), 9)
        self.assertGreater(min(seen.values()), 2)

    def test_many_balls(self):
        chance = Random(473)
        for _ in range(10):
            row = stick_row(chance, 40, 30)
            gaps = [chance.randint(1, 99) for _ in row.pairs]
            for _ in range(20):
                claim = some_claim(chance, row)
                if claim[0] != "ahead":
                    self.assertTrue(decide_sticking(row, claim) == (Sure() if is_true(row, gaps, claim) else Never()))

    def test_wide_for_ahead_alone(self):
        self.refused(Wide, {}, decide_sticking, WIDE, ("ahead", 0, 1))
        # Also where the claim surely never holds, but behind what is no claim.
        self.refused(Wide, {}, decide_sticking, WIDE, ("ahead", 0, 0))
        self.refused(Wide, {}, decide_sticking, Row([1] * 5, [0] * 5), ("ahead", 0, 1))
        self.refused(BadClaim, {"what": "pair"}, decide_sticking, WIDE, ("ahead", 0, 4))
        self.refused(BadClaim, {"what": "kind"}, decide_sticking, WIDE, ("ahead", 0))
        self.assertTrue(decide_sticking(WIDE, ("with", 0, 4)) == Sure())
        self.assertTrue(decide_sticking(WIDE, ("mean", 4, 2, 2)) == Sure())


if __name__ == "__main__":
    unittest.main()
