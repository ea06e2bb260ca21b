"""[10.2] to [10.5] Mends."""

import inspect
import unittest
from random import Random
from unittest.mock import patch

from helping import NO_SEQUENCES, Case
from samples import narrow_row, some_claim, stick_row
from test_changes import NO_CHANGES, some_change
from test_stickclaims import some_claim as some_stick_claim

from untoldgaps import wedges
from untoldgaps.changes import apply_changes
from untoldgaps.errors import BadChange, BadWish, Long, NoWall, TooMany, Wide
from untoldgaps.mends import Mend, good_selections, least_mends, mends_fault, spoilers
from untoldgaps.rows import Row
from untoldgaps.stickclaims import decide_sticking
from untoldgaps.verdicts import Sure, decide_claim
from untoldgaps.wedges import all_wedges

ROW = Row([1, 1, 1], [3, 0, 1])
POOL = [("speed", 2, 2), ("speed", 1, 2), ("speed", 0, 1)]
CLAIMS = [("apart", 1, 2)]
WALLED = Row([1, 1], [1, 0], True)
WIDE = Row([1] * 5, [4, 3, 2, 1, 0])
CALLS = (
    good_selections,
    least_mends,
    spoilers,
    lambda row, pool, claims, **more: mends_fault(row, pool, claims, (), **more),
)


def selections_of(count):
    """All selections in the order of [10.3], gone through by their length."""
    found = [()]
    for length in range(1, count + 1):
        found += sorted(
            one + (index,) for one in found if len(one) == length - 1 for index in range(count) if not one or index > one[-1]
        )
    return found


def rule_good(row, pool, claims, sticking):
    """All good selections, each claim decided for each row."""
    decide = decide_sticking if sticking else decide_claim
    good = []
    for selection in selections_of(len(pool)):
        behind = apply_changes(row, [pool[index] for index in selection])
        if all(decide(behind, claim) == Sure() for claim in claims):
            good.append(selection)
    return good


def rule_least(good):
    return [one for one in good if not any(set(other) < set(one) for other in good)]


def rule_spoilers(good, count):
    told = []
    for one in rule_least(good):
        for index in range(count):
            if index not in one and tuple(sorted(one + (index,))) not in good:
                told.append((one, index))
    return told


def some_pool(chance, row, most=4):
    pool = []
    while len(pool) < chance.randint(1, most):
        change = some_change(chance, row)
        if change[:2] not in [old[:2] for old in pool]:
            pool.append(change)
    return pool


def drawn_cases(number, count):
    """Rows with pools and claims, half of them with sticking."""
    chance = Random(number)
    for at in range(count):
        sticking = at % 2 == 1
        row = stick_row(chance, 4) if sticking else narrow_row(chance, weights=3)
        draw = some_stick_claim if sticking else (lambda one, other: some_claim(one, other, 1))
        claims = [draw(chance, row) for _ in range(chance.choice((0, 1, 1, 1, 2)))]
        yield row, some_pool(chance, row), claims, sticking


def contents(mends):
    return [(mend.selection, mend.row.weights, mend.row.speeds) for mend in mends]


class GoodTest(Case):
    def test_example(self):
        self.is_same(good_selections(ROW, POOL, CLAIMS, sticking=True), ((0,), (2,), (0, 2), (0, 1, 2)))
        self.is_same(
            contents(least_mends(ROW, POOL, CLAIMS, sticking=True)),
            [((0,), (1, 1, 1), ((3, 1), (0, 1), (2, 1))), ((2,), (1, 1, 1), ((1, 1), (0, 1), (1, 1)))],
        )
        self.is_same(spoilers(ROW, POOL, CLAIMS, sticking=True), (((0,), 1), ((2,), 1)))

    def test_clashes(self):
        """Without loss, and with the claims of clashes."""
        row = Row([1, 1, 1], [1, 0, -1])
        pool = (["speed", 0, 0], ["weight", 1, 2], ("speed", 2, (0, 5)))
        self.is_same(good_selections(row, pool, [("count", 3, 3)]), ((), (1,)))
        self.is_same(
            good_selections(row, pool, [("count", 0, 2)]),
            ((0,), (2,), (0, 1), (0, 2), (1, 2), (0, 1, 2)),
        )
        self.is_same([mend.selection for mend in least_mends(row, pool, [("count", 0, 2)])], [(0,), (2,)])
        self.is_same(spoilers(row, pool, [("count", 0, 2)]), ())
        claims = (("count", 0, 2), ("meets", 1))
        self.is_same(good_selections(row, pool, claims), ((0,), (2,), (0, 1), (1, 2)))
        self.is_same(spoilers(row, pool, claims), (((0,), 2), ((2,), 0)))

    def test_no_claims(self):
        told = good_selections(ROW, POOL, [])
        self.is_same(told, ((), (0,), (1,), (2,), (0, 1), (0, 2), (1, 2), (0, 1, 2)))
        self.is_same(good_selections(ROW, POOL, (), sticking=True), told)
        self.is_same(contents(least_mends(ROW, POOL, [])), [((), ROW.weights, ROW.speeds)])
        self.is_same(spoilers(ROW, POOL, []), ())
        # Nothing is decided.
        self.is_same(good_selections(ROW, POOL, [], most=0), told)
        with patch.object(wedges, "MOST_CLASHES", 0):
            self.is_same(good_selections(ROW, POOL, []), told)
        self.assertEqual(len(good_selections(WIDE, POOL, [], sticking=True)), 8)

    def test_against_all_selections(self):
        seen = {"none": 0, "some": 0, "all": 0, "spoilt": 0}
        for row, pool, claims, sticking in drawn_cases(541, 160):
            good = rule_good(row, pool, claims, sticking)
            self.is_same(good_selections(row, pool, claims, sticking=sticking), tuple(good))
            mends = least_mends(row, pool, claims, sticking=sticking)
            self.assertIs(mends.__class__, tuple)
            self.is_same([mend.selection for mend in mends], rule_least(good))
            for mend in mends:
                self.assertIs(mend.__class__, Mend)
                self.assertTrue(mend.row == apply_changes(row, [pool[index] for index in mend.selection]))
            told = spoilers(row, pool, claims, sticking=sticking)
            self.is_same(told, tuple(rule_spoilers(good, len(pool))))
            seen["none" if not good else "all" if len(good) == 1 << len(pool) else "some"] += 1
            seen["spoilt"] += len(told) > 0
        self.assertGreater(min(seen.values()), 10)

    def test_pool_of_five(self):
        chance = Random(542)
        row = Row([2, 1, 2], [1, 0, -1])
        pool = [("weight", 0, 1), ("weight", 1, 2), ("speed", 0, 3), ("speed", 2, 1), ("speed", 1, (1, 2))]
        for claim in (("first", 0), ("count", 0, 2), some_claim(chance, row, 1)):
            good = rule_good(row, pool, [claim], False)
            self.is_same(good_selections(row, pool, [claim]), tuple(good))
        self.assertEqual(len(good_selections(row, pool, [])), 32)

    def test_what_is_passed_stays(self):
        pool = [["speed", 0, (2, 4)], ["weight", 1, 3]]
        claims = [("speed", 0, (2, 4), None)]
        least_mends(ROW, pool, claims)
        self.is_same((pool, claims), ([["speed", 0, (2, 4)], ["weight", 1, 3]], [("speed", 0, (2, 4), None)]))

    def test_constructor_keeps_all(self):
        selection, row = [0], None
        told = Mend(selection, row)
        self.assertIs(told.selection, selection)
        self.assertIs(told.row, row)
        self.assertFalse(Mend((0,), None) == Mend((0,), None))


class FaultTest(Case):
    # The least mends of ROW are (0,) and (2,).
    FIRST = Mend((0,), ROW.with_speeds([3, 0, 2]))
    SECOND = Mend((2,), ROW.with_speeds([1, 0, 1]))

    def fault(self, *mends):
        told = mends_fault(ROW, POOL, CLAIMS, list(mends), sticking=True)
        self.is_same(mends_fault(ROW, tuple(POOL), CLAIMS, mends, sticking=True), told)
        return told

    def test_right(self):
        self.assertIsNone(self.fault(self.FIRST, self.SECOND))
        for row, pool, claims, sticking in drawn_cases(543, 60):
            told = least_mends(row, pool, claims, sticking=sticking)
            self.assertIsNone(mends_fault(row, pool, claims, told, sticking=sticking))
            for at in range(len(told)):
                left = told[:at] + told[at + 1:]
                self.is_same(mends_fault(row, pool, claims, left, sticking=sticking), "lacking")

    def test_order(self):
        for selection in NO_SEQUENCES + ([0], (0, 0), (2, 0), (3,), (-1,), (0, 3), (False,), (True, 2), (0.0,), (None,),
                                         ((0,),), ("0",)):
            self.is_same(self.fault(Mend(selection, None)), "order")
            self.is_same(self.fault(self.FIRST, Mend(selection, ROW)), "order")
        self.is_same(self.fault(self.SECOND, self.FIRST), "order")
        self.is_same(self.fault(self.FIRST, self.FIRST), "order")
        self.is_same(self.fault(Mend((0, 2), None), self.SECOND), "order")
        self.is_same(self.fault(self.FIRST, Mend((), None)), "order")
        # Ahead of a bad one that stands before.
        self.is_same(self.fault(Mend((1,), None), self.FIRST), "order")

    def test_bad(self):
        for selection in ((), (1,), (0, 1), (1, 2)):
            behind = apply_changes(ROW, [POOL[index] for index in selection])
            self.is_same(self.fault(Mend(selection, behind)), "bad")
        for row in (None, ROW, self.SECOND.row, (0,), True, Row([1, 1, 2], [3, 0, 2]), Row([1] * 3, [3, 0, 2], True)):
            self.is_same(self.fault(Mend((0,), row), self.SECOND), "bad")
        # Ahead of one within which another lies.
        self.is_same(self.fault(self.FIRST, Mend((0, 2), None)), "bad")
        self.is_same(self.fault(Mend((0, 2), ROW.with_speeds([1, 0, 2])), Mend((0, 1, 2), ROW)), "bad")

    def test_smaller(self):
        both = Mend((0, 2), ROW.with_speeds([1, 0, 2]))
        every = Mend((0, 1, 2), ROW.with_speeds([1, 2, 2]))
        self.is_same(self.fault(both), "smaller")
        self.is_same(self.fault(self.FIRST, self.SECOND, both), "smaller")
        self.is_same(self.fault(every), "smaller")
        self.is_same(self.fault(self.FIRST, every), "smaller")

    def test_lacking(self):
        self.is_same(self.fault(), "lacking")
        self.is_same(self.fault(self.FIRST), "lacking")
        self.is_same(self.fault(self.SECOND), "lacking")
        self.assertIsNone(mends_fault(ROW, POOL, [("count", 9, 9)], []))

    def test_without_loss(self):
        row = Row([1, 1, 1], [1, 0, -1])
        pool = [("speed", 0, 0), ("weight", 1, 2), ("speed", 2, 0)]
        claims = [("count", 0, 2)]
        one, other = least_mends(row, pool, claims)
        self.assertIsNone(mends_fault(row, pool, claims, [one, other]))
        self.is_same(mends_fault(row, pool, claims, [one]), "lacking")
        self.is_same(mends_fault(row, pool, claims, [Mend((0, 1), row)]), "bad")


class ErrorsTest(Case):
    def refuse(self, kind, attributes, row, pool, claims, **more):
        for call in CALLS:
            self.refused(kind, attributes, call, row, pool, claims, **more)

    def test_width_and_walls_first(self):
        for pool in (None, [None], POOL):
            self.refuse(Wide, {}, WIDE, pool, None)
            self.refuse(NoWall, {}, WALLED, pool, None, sticking=True)
            self.refuse(NoWall, {}, Row([1] * 9, [0] * 9, True), pool, None, sticking=True)
            self.refuse(Wide, {}, Row([1] * 9, [0] * 9, True), pool, None)

    def test_pool(self):
        for sticking in (True, False):
            for thing in NO_SEQUENCES + ([], (), [("weight", 0, 1)] * 6, [None] * 6):
                self.refuse(BadChange, {"index": 0, "what": "pool"}, ROW, thing, None, sticking=sticking)
            for thing in NO_CHANGES:
                self.refuse(BadChange, {"index": 0, "what": "change"}, ROW, [thing], None, sticking=sticking)

    def test_change_by_change(self):
        good = ("speed", 0, 1)
        for what, change in (
            ("change", "speed"),
            ("change", ("speed", 0)),
            ("ball", ("speed", 3, None)),
            ("ball", ("weight", True, None)),
            ("weight", ("weight", 0, 10)),
            ("speed", ["speed", 1, True]),
            ("speed", ["speed", 0, None]),
            ("double", ["speed", 0, 7]),
            ("double", ("speed", 0, 1)),
        ):
            self.refuse(BadChange, {"index": 1, "what": what}, ROW, [good, change], None)
            self.refuse(BadChange, {"index": 2, "what": what}, ROW, [good, ("weight", 2, 1), change, None], None)
        self.refuse(BadChange, {"index": 2, "what": "double"}, ROW, [("weight", 1, 1), good, ("weight", 1, 2)], None)
        good_selections(ROW, [("weight", 0, 1), ("speed", 0, 1), ("weight", 1, 1), ("speed", 1, 1)], [])

    def test_wishes(self):
        for sticking in (True, False):
            for thing in NO_SEQUENCES:
                self.refuse(BadWish, {"index": 0, "what": "sequence"}, ROW, POOL, thing, sticking=sticking, most=0)
            for thing in NO_SEQUENCES + ((), ["count", 3, 3]):
                self.refuse(BadWish, {"index": 0, "what": "kind"}, ROW, POOL, [thing], sticking=sticking, most=0)
        good = ("count", 0, None)
        for what, claim in (
            ("pair", ("meets", 2)),
            ("ball", ("speed", 3, None, None)),
            ("number", ("count", -1, 3)),
            ("bound", ("speed", 0, True, None)),
            ("deep", ("not", ("not", ("not", ("not", ("not", good)))))),
            ("kind", ("with", 0, 1)),
        ):
            self.refuse(BadWish, {"index": 1, "what": what}, ROW, POOL, [good, claim, None], most=0)
        for what, claim in (
            ("ball", ("with", 0, 3)),
            ("pair", ("ahead", 0, 2)),
            ("bound", ("mean", 0, True, None)),
            ("kind", ("meets", 0)),
        ):
            self.refuse(BadWish, {"index": 1, "what": what}, ROW, POOL, [("with", 0, 1), claim, None], sticking=True)

    def test_wide_for_ahead_alone(self):
        claims = [("with", 0, 1), ("ahead", 0, 1)]
        self.refuse(Wide, {}, WIDE, POOL, claims, sticking=True)
        self.refuse(BadWish, {"index": 2, "what": "kind"}, WIDE, POOL, claims + [None], sticking=True)
        self.refuse(BadWish, {"index": 1, "what": "pair"}, WIDE, POOL, [claims[0], ("ahead", 0, 4)], sticking=True)
        # Also where a claim ahead of it is not Sure.
        self.refuse(Wide, {}, WIDE, POOL, [("apart", 0, 0), ("ahead", 0, 1)], sticking=True)
        self.assertEqual(len(good_selections(WIDE, POOL, [("with", 0, 0)], sticking=True)), 8)

    def test_many_wedges_last(self):
        """The first selection in the order of the answer tells, also if a claim is not Sure already."""
        row = Row([1, 1, 1], [1, 1, 1])
        pool = [("speed", 0, 2), ("speed", 2, -1)]
        counts = [len(all_wedges(apply_changes(row, [pool[k] for k in one]))) for one in selections_of(2)]
        self.assertEqual(counts, [1, 1, 1, 2])
        for claims in ([("count", 0, None)], [("count", 1, 0)], [("count", 1, 0), ("count", 0, None)]):
            for call in CALLS:
                call(row, pool, claims, most=2)
            self.refuse(TooMany, {"most": 1}, row, pool, claims, most=1)
            self.refuse(TooMany, {"most": 0}, row, pool, claims, most=0)
            self.refuse(BadWish, {"index": 0, "what": "kind"}, row, pool, [None] + claims, most=0)
        # With sticking no wedges are looked for.
        for call in CALLS:
            call(row, pool, [("with", 0, 1)], sticking=True, most=0)

    def test_long(self):
        row = Row([1, 1, 1], [1, 1, 1])
        pool = [("speed", 0, 2), ("speed", 2, -1)]
        with patch.object(wedges, "MOST_CLASHES", 2):
            self.refuse(Long, {"count": 2}, row, pool, [("count", 1, 0)])
        with patch.object(wedges, "MOST_CLASHES", 1):
            # (0,) is Long already, and (0, 1), which has two wedges, comes behind it.
            self.refuse(Long, {"count": 1}, row, pool, [("count", 1, 0)], most=1)
            self.refuse(TooMany, {"most": 0}, row, pool, [("count", 1, 0)], most=0)

    def test_keywords(self):
        for call in (good_selections, least_mends, spoilers, mends_fault):
            parameters = inspect.signature(call).parameters
            for name, default in (("sticking", False), ("most", 400)):
                self.is_same((parameters[name].default, parameters[name].kind.name), (default, "KEYWORD_ONLY"))


if __name__ == "__main__":
    unittest.main()
