"""[9.1] to [9.3] Facts about runs."""

import unittest
from fractions import Fraction
from random import Random
from unittest.mock import patch

from helping import NO_RATIOS, NO_SEQUENCES, NO_WHOLES, Case, as_told
from oracle import fact_is_true, fractions, whole_run
from samples import gaps_of_many, row_of_many, some_fact, some_gaps, some_row

from untoldgaps import runs
from untoldgaps.errors import BadFact, BadGaps, Long
from untoldgaps.facts import MOST_FACTS, check_fact, check_facts, fact_holds
from untoldgaps.rows import Row
from untoldgaps.runs import Border, run_of

ROW = Row([1, 1, 1], [3, 0, -1])
WALLED = Row([2, 1], [-1, -2], True)


def contents(border):
    return (border.moment, border.pairs, border.word)


class CheckFactTest(Case):
    def bad(self, what, fact, row=ROW):
        self.refused(BadFact, {"what": what}, check_fact, row, fact)

    def test_each_kind(self):
        for fact in (
            ("count", 0),
            ("count", 800),
            ("word", ()),
            ("word", (0, 1, 1, 0)),
            ("silent", 1),
            ("between", 1, 2, (0, 1), (1, 1)),
            ("between", 3, 800, (1, 2), None),
            ("exact", 1, 2, (7, 3)),
            ("gaps", 0, 1, (0, 1), None),
            ("gaps", 1, 0, (1, 3), (1, 2)),
        ):
            self.is_same(check_fact(ROW, fact), fact)
            self.is_same(check_fact(ROW, list(fact)), fact)
        self.is_same(check_fact(WALLED, ["gaps", -1, 0, 1, 2]), ("gaps", -1, 0, (1, 1), (2, 1)))
        self.is_same(check_fact(WALLED, ("silent", -1)), ("silent", -1))

    def test_what_is_told(self):
        self.is_same(check_fact(ROW, ["word", [0, 1]]), ("word", (0, 1)))
        self.is_same(check_fact(ROW, ("word", (0, 1))), ("word", (0, 1)))
        self.is_same(check_fact(ROW, ("between", 1, 2, 0, (4, 2))), ("between", 1, 2, (0, 1), (2, 1)))
        self.is_same(check_fact(ROW, ("between", 1, 2, (2, 4), None)), ("between", 1, 2, (1, 2), None))
        self.is_same(check_fact(ROW, ("exact", 1, 2, 3)), ("exact", 1, 2, (3, 1)))
        self.is_same(check_fact(ROW, ("exact", 1, 2, (2, 4))), ("exact", 1, 2, (1, 2)))
        self.is_same(check_fact(ROW, ("gaps", 0, 1, (3, 9), 1)), ("gaps", 0, 1, (1, 3), (1, 1)))

    def test_kind(self):
        for thing in NO_SEQUENCES + (
            (), [], ("counts", 3), ("Count", 3), (None, 3), (["count"], 3), (3, "count"), (b"count", 3), ({}, 1),
            ("count",), ("count", 3, 3), ("word",), ("word", 0, 1), ("silent",), ("silent", 0, 1),
            ("between", 1, 2, 3), ("between", 1, 2, 3, 4, 5), ("exact", 1, 2), ("exact", 1, 2, 3, 4),
            ("gaps", 0, 1, 2), ("gaps", 0, 1, 2, 3, 4), ("first", 0), ("not", ("count", 3)), ("meets", 0), "count",
        ):
            self.bad("fact", thing)

    def test_number(self):
        for thing in NO_WHOLES + (-1, 801, 10**30, (2, 1)):
            self.bad("number", ("count", thing))
        for thing in NO_WHOLES + (-1, 0, 801, 10**30, (2, 1)):
            for kind, *rest in (("between", None, None), ("exact", None)):
                self.bad("number", (kind, thing, 5, *rest))
                self.bad("number", (kind, 1, thing, *rest))
        for one, other in ((2, 2), (3, 2), (800, 1), (800, 800)):
            self.bad("number", ("between", one, other, None, True))
            self.bad("number", ("exact", one, other, None))

    def test_word(self):
        for thing in NO_SEQUENCES + ([2], [-1], [0, True], [False], [0, None], (0, 1, 2), ["0"], [(0,)], [1.0]):
            self.bad("word", ("word", thing))
        self.bad("word", ("word", [1]), WALLED)
        # A beginning may have any length.
        self.is_same(check_fact(ROW, ("word", [0, 1] * 2000)), ("word", (0, 1) * 2000))

    def test_pair(self):
        for thing in NO_WHOLES + (-1, 2, 10**30):
            self.bad("pair", ("silent", thing))
            self.bad("pair", ("gaps", thing, 1, None, True))
            self.bad("pair", ("gaps", 0, thing, None, True))
        for pair in (0, 1):
            self.bad("pair", ("gaps", pair, pair, None, True))

    def test_bounds(self):
        for thing in NO_RATIOS + (-1, (-1, 3)):
            self.bad("low", ("between", 1, 2, thing, True))
            self.bad("low", ("gaps", 0, 1, thing, True))
            if thing is not None:
                self.bad("high", ("between", 1, 2, 0, thing))
                self.bad("high", ("gaps", 0, 1, 0, thing))
        for low, high in ((0, 0), (2, 2), ((1, 2), (2, 4)), ((1, 2), (1, 3)), (1, 0), (10**30, 10**30 - 1)):
            self.bad("high", ("between", 1, 2, low, high))
            self.bad("high", ("gaps", 0, 1, low, high))

    def test_ratio(self):
        for thing in NO_RATIOS + (0, -1, (0, 3), (-1, 3)):
            self.bad("ratio", ("exact", 1, 2, thing))

    def test_wide_rows(self):
        row = Row([1] * 40, [0] * 40, True)
        for fact in (("silent", 38), ("gaps", -1, 38, (0, 1), None), ("word", (38, -1))):
            self.is_same(check_fact(row, fact), fact)


class CheckFactsTest(Case):
    def test_most(self):
        self.assertEqual(MOST_FACTS, 12)
        self.is_same(check_facts(ROW, []), ())
        self.is_same(check_facts(ROW, [["count", 3]] * 12), (("count", 3),) * 12)
        self.refused(BadFact, {"what": "facts"}, check_facts, ROW, [("count", 3)] * 13)
        self.refused(BadFact, {"what": "facts"}, check_facts, ROW, [None] * 13)
        for thing in NO_SEQUENCES:
            self.refused(BadFact, {"what": "facts"}, check_facts, ROW, thing)

    def test_order_and_doubles(self):
        facts = (("silent", 0), ["count", 2], ("silent", 0), ("word", [1]))
        self.is_same(check_facts(ROW, facts), (("silent", 0), ("count", 2), ("silent", 0), ("word", (1,))))

    def test_fact_by_fact(self):
        self.refused(BadFact, {"what": "pair"}, check_facts, ROW, [("count", 3), ("silent", 9), ("count", -1)])
        self.refused(BadFact, {"what": "number"}, check_facts, ROW, [("count", -1), ("silent", 9), None])
        self.refused(BadFact, {"what": "fact"}, check_facts, ROW, [("count", 1), None, ("silent", 9)])

    def test_what_is_passed_stays(self):
        beginning = [0, 1]
        facts = [["word", beginning], ["exact", 1, 2, (2, 4)]]
        told = check_facts(ROW, facts)
        fact_holds(ROW, [1, 1], facts[0])
        self.is_same(facts, [["word", [0, 1]], ["exact", 1, 2, (2, 4)]])
        beginning.append(0)
        facts.clear()
        self.is_same(told, (("word", (0, 1)), ("exact", 1, 2, (1, 2))))


class FactHoldsTest(Case):
    # The lines cross at 1, 3/2 and 3 with the word (0, 1, 0).
    GAPS = [3, 3]

    def test_each_kind(self):
        for fact, holds in (
            (("count", 3), True),
            (("count", 2), False),
            (("count", 4), False),
            (("word", ()), True),
            (("word", [0, 1]), True),
            (("word", [0, 1, 0]), True),
            (("word", [0, 1, 0, 1]), False),
            (("word", [1]), False),
            (("silent", 0), False),
            (("between", 1, 2, 1, 2), True),
            (("between", 1, 2, (3, 2), 2), False),
            (("between", 1, 2, 1, (3, 2)), False),
            (("between", 1, 2, (4, 3), None), True),
            (("between", 1, 3, 3, None), False),
            (("between", 1, 4, 0, None), False),
            (("exact", 1, 2, (3, 2)), True),
            (("exact", 1, 3, 3), True),
            (("exact", 2, 3, 2), True),
            (("exact", 2, 3, (201, 100)), False),
            (("exact", 3, 4, 1), False),
            (("gaps", 0, 1, 0, None), True),
            (("gaps", 0, 1, (1, 2), (3, 2)), True),
            (("gaps", 0, 1, 1, None), False),
            (("gaps", 1, 0, 0, 1), False),
        ):
            self.is_same(fact_holds(ROW, self.GAPS, fact), holds)
        self.is_same(fact_holds(Row([1] * 3, [1, 0, 0]), [1, 1], ("silent", 1)), False)
        self.is_same(fact_holds(Row([1] * 3, [1, 0, 1]), [1, 1], ("silent", 1)), True)
        self.is_same(fact_holds(Row([1, 1], [0, 0]), [1], ("count", 0)), True)
        self.is_same(fact_holds(Row([1, 1], [0, 0]), [1], ("word", [0])), False)

    def test_against_runs(self):
        chance = Random(481)
        seen = {}
        for _ in range(2500):
            row = some_row(chance, most=4)
            gaps = some_gaps(chance, row)
            clashes, border, _ = whole_run(row, gaps)
            fact = some_fact(chance, row, clashes)
            told = fact_holds(row, gaps, fact)
            if border is not None:
                self.assertIs(told.__class__, Border)
                self.is_same(contents(told), contents(run_of(row, gaps)))
            else:
                self.is_same(told, fact_is_true(row, gaps, clashes, fact))
                key = (fact[0], told)
                seen[key] = seen.get(key, 0) + 1
        self.assertEqual(len(seen), 12)
        self.assertGreater(min(seen.values()), 20)

    def test_levels_and_many_balls(self):
        """Clashes of one level have one moment: the later one is exactly 1 times the earlier one."""
        row = Row([1] * 4, [1, 0, 0, -1])
        self.assertEqual(run_of(row, [1, 1, 1]).moments[:2], ((1, 1), (1, 1)))
        self.is_same(fact_holds(row, [1, 1, 1], ("exact", 1, 2, 1)), True)
        self.is_same(fact_holds(row, [1, 1, 1], ("between", 1, 2, 0, None)), True)
        self.is_same(fact_holds(row, [1, 1, 1], ("between", 1, 2, 1, None)), False)
        self.is_same(fact_holds(row, [1, 1, 1], ("word", [0, 2, 1])), True)
        self.is_same(fact_holds(row, [1, 1, 1], ("word", [2, 0])), False)
        row = row_of_many(12)
        gaps = gaps_of_many(row)
        moments = fractions(run_of(row, gaps).moments)
        self.assertEqual(len(moments), 800)
        ratio = moments[799] / moments[6]
        self.is_same(fact_holds(row, gaps, ("exact", 7, 800, as_told(ratio))), True)
        self.is_same(fact_holds(row, gaps, ("between", 7, 800, as_told(ratio), None)), False)
        self.is_same(fact_holds(row, gaps, ("count", 800)), True)

    def test_border(self):
        for fact in (("count", 3), ("gaps", 0, 1, 0, None), ("word", ())):
            told = fact_holds(ROW, [3, 1], fact)
            self.is_same(contents(told), ((1, 1), (0, 1), ()))

    def test_errors(self):
        for thing in NO_SEQUENCES + ([], [1], [1, 2, 3]):
            self.refused(BadGaps, {"what": "length"}, fact_holds, ROW, thing, None)
        for thing in NO_RATIOS + (0, -1):
            self.refused(BadGaps, {"what": "gap"}, fact_holds, ROW, [1, thing], None)
        # The fact is checked also where the run meets a border, or is too long.
        self.refused(BadFact, {"what": "fact"}, fact_holds, ROW, [3, 1], None)
        self.refused(BadFact, {"what": "pair"}, fact_holds, ROW, [3, 1], ("silent", 2))
        row = row_of_many(11)
        gaps = gaps_of_many(row)
        self.refused(BadFact, {"what": "number"}, fact_holds, row, gaps, ("count", 801))
        for fact in (("count", 3), ("gaps", 0, 1, 0, None), ("word", ())):
            self.refused(Long, {"count": 800}, fact_holds, row, gaps, fact)
            with patch.object(runs, "MOST_CLASHES", 2):
                self.refused(Long, {"count": 2}, fact_holds, ROW, [3, 3], fact)


class PlainRatiosTest(Case):
    def test_halves(self):
        """Bounds are compared exactly, also with great numbers."""
        row = Row([1, 1, 1], [3, 0, -1])
        great = 10**60
        moment = Fraction(great + 1, great)
        gaps = [as_told(moment * 4 - 3), 3]
        clashes, _, _ = whole_run(row, gaps)
        ratio = as_told(clashes[1][0] / clashes[0][0])
        self.is_same(fact_holds(row, gaps, ("exact", 1, 2, ratio)), True)
        self.is_same(fact_holds(row, gaps, ("exact", 1, 2, (ratio[0] + 1, ratio[1]))), False)


if __name__ == "__main__":
    unittest.main()
