"""[6.1] to [6.3] Claims."""

import unittest
from random import Random

from helping import NO_RATIOS, NO_WHOLES, Case
from oracle import claim_is_true
from samples import narrow_rows, some_claim, some_row, some_word

from untoldgaps.claims import check_claim, claim_holds
from untoldgaps.errors import BadClaim
from untoldgaps.rows import Row

ROW = Row([2, 1, 2], [1, 0, -1])
WALLED = Row([2, 1], [1, 0], True)
MEETS = ("meets", 0)


def around(claim, times, kind="not"):
    """A claim with so many joined ones around it."""
    for _ in range(times):
        claim = ("not", claim) if kind == "not" else (kind, MEETS, claim)
    return claim


class CheckClaimTest(Case):
    def bad(self, what, claim, row=ROW):
        self.refused(BadClaim, {"what": what}, check_claim, row, claim)

    def test_each_kind(self):
        for claim in (
            ("meets", 1),
            ("first", 0),
            ("count", 0, None),
            ("count", 3, 2),
            ("count", 10**30, 900),
            ("times", 1, 2, 7),
            ("times", 0, 0, None),
            ("ahead", 0, 1),
            ("ahead", 1, 1),
            ("not", MEETS),
            ("both", MEETS, ("first", 1)),
            ("either", ("not", MEETS), ("both", MEETS, MEETS)),
            ("speed", 2, None, None),
        ):
            self.is_same(check_claim(ROW, claim), claim)
        self.is_same(check_claim(WALLED, ("ahead", -1, 0)), ("ahead", -1, 0))

    def test_ratios(self):
        self.is_same(check_claim(ROW, ("speed", 0, 1, (2, 4))), ("speed", 0, (1, 1), (1, 2)))
        self.is_same(check_claim(ROW, ("speed", 1, None, (-3, 6))), ("speed", 1, None, (-1, 2)))
        self.is_same(check_claim(ROW, ("speed", 1, 5, -5)), ("speed", 1, (5, 1), (-5, 1)))
        self.is_same(
            check_claim(ROW, ("both", ("not", ("speed", 0, 0, None)), ("speed", 2, (4, 2), 3))),
            ("both", ("not", ("speed", 0, (0, 1), None)), ("speed", 2, (2, 1), (3, 1))),
        )

    def test_kind(self):
        for thing in (None, 7, "meets", ["meets", 0], (), {}, ("meet", 0), ("Meets", 0), (None, 0), (["meets"], 0),
                      (("meets",), 0), (0, 0), ("with", 0, 1), (b"meets", 0), ({}, 0)):
            self.bad("kind", thing)
            self.bad("kind", ("not", thing))
            self.bad("kind", ("both", MEETS, thing))
        for claim in (("meets",), ("meets", 0, 1), ("first",), ("count", 1), ("count", 1, 2, 3), ("times", 0, 1),
                      ("times", 0, 1, 2, 3), ("speed", 0, 1), ("speed", 0, 1, 2, 3), ("ahead", 0), ("ahead", 0, 1, 0),
                      ("not",), ("not", MEETS, MEETS), ("both", MEETS), ("either", MEETS), ("both",) + (MEETS,) * 3):
            self.bad("kind", claim)
        self.bad("kind", ("times", 9, None))

    def test_depth(self):
        for kind in ("not", "both", "either"):
            deepest = around(MEETS, 4, kind)
            self.is_same(check_claim(ROW, deepest), deepest)
            self.bad("deep", around(MEETS, 5, kind))
            self.bad("deep", around(None, 5, kind))
            self.bad("deep", around(MEETS, 200, kind))
            # What is no claim of its kind is found ahead of what is too deep.
            self.bad("kind", around(("not",), 4, kind))
            self.bad("pair", around(("meets", 9), 4, kind))
        self.bad("deep", ("both", around(MEETS, 4), ("meets", 9)))
        self.bad("pair", ("both", ("meets", 9), around(MEETS, 4)))
        self.bad("kind", ("both", None, around(MEETS, 4)))
        wide = ("both", around(MEETS, 3), around(MEETS, 3))
        self.is_same(check_claim(ROW, wide), wide)

    def test_pair(self):
        for thing in NO_WHOLES + (-1, 2, 10**30):
            for claim in (("meets", thing), ("first", thing), ("times", thing, 0, None), ("ahead", thing, 0),
                          ("ahead", 0, thing), ("ahead", thing, None)):
                self.bad("pair", claim)
        self.bad("pair", ("meets", 1), WALLED)
        self.bad("pair", ("meets", -2), WALLED)

    def test_ball(self):
        for thing in NO_WHOLES + (-1, 3):
            self.bad("ball", ("speed", thing, 1, 2))
            self.bad("ball", ("speed", thing, True, "x"))
        self.bad("ball", ("speed", 2, None, None), WALLED)

    def test_number(self):
        for thing in NO_WHOLES + (-1, (2, 1)):
            self.bad("number", ("count", thing, 3))
            self.bad("number", ("times", 0, thing, 3))
            if thing is not None:
                self.bad("number", ("count", 0, thing))
                self.bad("number", ("times", 0, 0, thing))
        self.bad("number", ("count", None, None))

    def test_bound(self):
        for thing in NO_RATIOS:
            if thing is not None:
                self.bad("bound", ("speed", 0, thing, 3))
                self.bad("bound", ("speed", 0, None, thing))

    def test_order_of_reading(self):
        self.bad("pair", ("times", 9, -1, -1))
        self.bad("number", ("times", 0, -1, "x"))
        self.bad("number", ("both", ("count", -1, 0), ("meets", 9)))
        self.bad("pair", ("both", ("meets", 9), ("count", -1, 0)))
        self.bad("bound", ("either", ("speed", 0, True, None), None))
        self.bad("kind", ("either", None, ("speed", 0, True, None)))
        # Joined claims come ahead of the claims in them.
        self.bad("kind", ("both", ("meets", 9)))
        self.bad("kind", ("not", ("meets", 9), None))

    def test_rows_of_any_width(self):
        wide = Row([1] * 40, [0] * 40, True)
        for claim in (("meets", -1), ("ahead", 38, -1), ("speed", 39, 0, None)):
            check_claim(wide, claim)
        self.bad("pair", ("meets", 39), wide)
        self.bad("ball", ("speed", 40, 0, None), wide)

    def test_told_again(self):
        chance = Random(291)
        for _ in range(200):
            row = some_row(chance)
            told = check_claim(row, some_claim(chance, row))
            self.is_same(check_claim(row, told), told)


class ClaimHoldsTest(Case):
    def holds(self, claim, word=(0, 1, 0), speeds=((-1, 2), (0, 1), (3, 1))):
        told = check_claim(ROW, claim)
        answer = claim_holds(told, word, speeds)
        self.is_same(answer, claim_is_true(claim, word, speeds))
        self.is_same(claim_holds(told, list(word), list(speeds)), answer)
        self.is_same(claim_holds(("not", told), word, speeds), not answer)
        return answer

    def all_hold(self, *claims):
        for claim in claims:
            self.assertIs(self.holds(claim), True, claim)

    def none_holds(self, *claims):
        for claim in claims:
            self.assertIs(self.holds(claim), False, claim)

    def test_meets_and_first(self):
        self.all_hold(("meets", 0), ("meets", 1), ("first", 0))
        self.none_holds(("first", 1))
        self.is_same(self.holds(("meets", 1), (0,)), False)
        for kind in ("meets", "first"):
            self.is_same(self.holds((kind, 0), ()), False)

    def test_count(self):
        self.all_hold(("count", 3, 3), ("count", 0, None), ("count", 3, None), ("count", 0, 3))
        self.none_holds(("count", 4, None), ("count", 0, 2), ("count", 3, 2), ("count", 4, 2), ("count", 4, 3))
        self.is_same(self.holds(("count", 0, 0), ()), True)

    def test_times(self):
        self.all_hold(("times", 0, 2, 2), ("times", 1, 1, 1), ("times", 0, 0, None), ("times", 0, 2, None))
        self.none_holds(("times", 0, 3, None), ("times", 0, 0, 1), ("times", 1, 2, 0), ("times", 1, 1, 0))
        self.is_same(self.holds(("times", 1, 0, 0), (0,)), True)

    def test_speed(self):
        self.all_hold(("speed", 0, (-1, 2), (-1, 2)), ("speed", 0, None, None), ("speed", 0, -1, 0),
                      ("speed", 2, 3, None), ("speed", 2, None, 3), ("speed", 1, 0, 0))
        self.none_holds(("speed", 0, (-1, 3), None), ("speed", 0, None, (-2, 3)), ("speed", 2, 4, 2),
                        ("speed", 1, 1, -1), ("speed", 2, (31, 10), None))

    def test_ahead(self):
        self.all_hold(("ahead", 0, 1))
        self.none_holds(("ahead", 1, 0), ("ahead", 0, 0), ("ahead", 1, 1))
        for word in ((), (0,), (1,), (0, 0)):
            self.is_same(self.holds(("ahead", 0, 1), word), False)
        self.is_same(self.holds(("ahead", 1, 0), (1, 0, 1, 0)), True)

    def test_joined(self):
        yes, no = ("meets", 0), ("first", 1)
        self.all_hold(("not", no), ("both", yes, yes), ("either", yes, no), ("either", no, yes), ("either", yes, yes))
        self.none_holds(("not", yes), ("both", yes, no), ("both", no, yes), ("both", no, no), ("either", no, no))

    def test_never(self):
        """Bounds the wrong way round are claims that hold for no run."""
        chance = Random(292)
        for row in narrow_rows(293, 60):
            word, speeds = some_word(chance, row, chance.randint(0, 6)), row.speeds
            for claim in (
                ("count", 3, 2),
                ("times", row.pairs[0], 1, 0),
                ("speed", 0, 1, (1, 2)),
                ("ahead", row.pairs[-1], row.pairs[-1]),
            ):
                self.is_same(claim_holds(check_claim(row, claim), word, speeds), False)

    def test_at_random(self):
        chance = Random(294)
        seen = {}
        for _ in range(3000):
            row = some_row(chance, most=4)
            claim = some_claim(chance, row, chance.randint(0, 4))
            word = tuple(some_word(chance, row, chance.randint(0, 5)))
            answer = claim_holds(check_claim(row, claim), word, row.speeds)
            self.is_same(answer, claim_is_true(claim, word, row.speeds))
            seen[claim[0], answer] = seen.get((claim[0], answer), 0) + 1
        self.assertEqual(len(seen), 18)
        self.assertGreater(min(seen.values()), 10)


if __name__ == "__main__":
    unittest.main()
