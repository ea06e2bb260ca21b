"""[9.9] Ranges of moments and gaps."""

import inspect
import unittest
from fractions import Fraction
from unittest.mock import patch

from helping import NO_SEQUENCES, NO_WHOLES, Case, as_told
from oracle import WordGaps
from samples import heard_cases

from untoldgaps import wedges
from untoldgaps.errors import BadFact, Long, TooMany, Wide
from untoldgaps.forms import forms_of
from untoldgaps.heard import fitting_words
from untoldgaps.ranges import gap_ranges, moment_ranges
from untoldgaps.rows import Row

ROW = Row((1, 1, 1), (3, 0, -1))
FOUR = Row((1, 1, 1, 1), (1, 0, 0, -1))
WIDE = Row([1] * 5, [0] * 5)
NOTHING = [("count", 0), ("count", 1)]
# Quotients that stand in for numbers as great as any.
GREAT = 10**9


def region_of(row, word):
    return WordGaps(row, word, forms_of(row, word).moments)


class RangesCase(Case):
    def judge(self, low, high, has):
        """Asks whether there are gaps with quotients within a range, at its ends and just beyond them."""
        self.is_told(low)
        low = Fraction(*low)
        if high is not None:
            self.is_told(high)
        ends = GREAT if high is None else Fraction(*high)
        if low == ends:
            self.assertTrue(has(low))
            for quotient in (low * Fraction(999, 1000), low * Fraction(1001, 1000), low + 5, low / 9):
                self.assertFalse(has(quotient))
            return "one"
        self.assertLess(low, ends)
        for part in (Fraction(1, 10**6), Fraction(1, 2), Fraction(999999, 10**6)):
            self.assertTrue(has(low + (ends - low) * part))
        self.assertFalse(has(low))
        self.assertFalse(has(low * Fraction(999999, 10**6)))
        if high is None:
            self.assertTrue(has(low + GREAT * GREAT))
            return "endless"
        self.assertFalse(has(ends))
        self.assertFalse(has(ends * Fraction(1000001, 10**6)))
        return "bounded"


class MomentRangesTest(RangesCase):
    def test_example(self):
        self.is_same(moment_ranges(ROW, [("word", (0,))], 1, 3), (((0, 1, 0), (1, 1), None),))

    def test_some(self):
        # The lines cross at a / 3, (a + b) / 4 and b.
        self.is_same(moment_ranges(ROW, [], 1, 2), (((0, 1, 0), (1, 1), None), ((1, 0, 1), (1, 1), None)))
        self.is_same(moment_ranges(ROW, (), 2, 3), (((0, 1, 0), (1, 1), (4, 1)), ((1, 0, 1), (1, 1), (4, 3))))
        self.is_same(moment_ranges(ROW, [("exact", 1, 2, 2)], 1, 2), (((0, 1, 0), (2, 1), (2, 1)),
                                                                     ((1, 0, 1), (2, 1), (2, 1))))
        self.is_same(moment_ranges(ROW, [("exact", 1, 2, 2)], 1, 3), (((0, 1, 0), (5, 1), (5, 1)),
                                                                     ((1, 0, 1), (7, 3), (7, 3))))
        self.is_same(moment_ranges(ROW, [("between", 1, 2, 2, 3)], 1, 2), (((0, 1, 0), (2, 1), (3, 1)),
                                                                          ((1, 0, 1), (2, 1), (3, 1))))
        self.is_same(moment_ranges(ROW, [], 1, 4), ())
        self.is_same(moment_ranges(ROW, [], 799, 800), ())
        self.is_same(moment_ranges(ROW, NOTHING, 1, 2), ())

    def test_behind_a_wall(self):
        # The first ball comes back from the wall at twice its first gap and the second one.
        row = Row([1, 1], [-1, 0], True)
        self.is_same(moment_ranges(row, [], 1, 2), (((-1, 0), (2, 1), None),))
        self.is_same(moment_ranges(row, [("exact", 1, 2, (5, 2))], 1, 2), (((-1, 0), (5, 2), (5, 2)),))
        self.is_same(moment_ranges(row, [("gaps", -1, 0, 1, 2)], 1, 2), (((-1, 0), (5, 2), (3, 1)),))

    def test_against_elimination(self):
        seen = {"one": 0, "bounded": 0, "endless": 0}
        for row, facts, clashes in heard_cases(511, 200, 3, True):
            for i, j in ((1, 2), (1, len(clashes)), (2, 3)):
                if not 1 <= i < j:
                    continue
                told = moment_ranges(row, facts, i, j)
                words = [word for word, _ in fitting_words(row, facts) if len(word) >= j]
                self.is_same([word for word, _, _ in told], words)
                for word, low, high in told[:3]:
                    region = region_of(row, word)

                    def has(quotient):
                        exact = ("exact", i, j, as_told(quotient))
                        return region.fits(facts + [exact])

                    seen[self.judge(low, high, has)] += 1
        self.assertGreater(min(seen.values()), 10)

    def test_exact_leaves_a_word_if_in_its_range(self):
        for row, facts, clashes in heard_cases(512, 60, 1, True):
            if len(clashes) < 2:
                continue
            for word, low, high in moment_ranges(row, facts, 1, 2):
                low = Fraction(*low)
                middle = low + 1 if high is None else (low + Fraction(*high)) / 2
                for quotient, fits in ((middle, True), (low / 2, False), (low, high is not None and low == middle)):
                    told = [each for each, _ in fitting_words(row, facts + [("exact", 1, 2, as_told(quotient))])]
                    self.assertEqual(word in told, fits)


class GapRangesTest(RangesCase):
    def test_example(self):
        self.is_same(
            gap_ranges(ROW, [("between", 1, 3, 2, 3)], 0, 1),
            (((0, 1, 0), (1, 1), (3, 2)), ((1, 0, 1), (6, 1), (9, 1))),
        )

    def test_some(self):
        self.is_same(gap_ranges(ROW, [], 0, 1), (((0, 1, 0), (0, 1), (3, 1)), ((1, 0, 1), (3, 1), None)))
        self.is_same(gap_ranges(ROW, [], 1, 0), (((0, 1, 0), (1, 3), None), ((1, 0, 1), (0, 1), (1, 3))))
        self.is_same(gap_ranges(ROW, [("exact", 1, 2, 2)], 0, 1), (((0, 1, 0), (3, 5), (3, 5)),
                                                                  ((1, 0, 1), (7, 1), (7, 1))))
        self.is_same(gap_ranges(Row([1, 1], [0, 0], True), [], 0, -1), (((), (0, 1), None),))
        self.is_same(gap_ranges(Row([1, 1], [0, 0], True), [("gaps", -1, 0, 2, 3)], 0, -1), (((), (1, 3), (1, 2)),))
        self.is_same(gap_ranges(ROW, NOTHING, 0, 1), ())

    def test_against_elimination(self):
        seen = {"one": 0, "bounded": 0, "endless": 0}
        for row, facts, _ in heard_cases(513, 120, 3, True):
            units = {pair: [int(pair == each) for each in row.pairs] for pair in row.pairs}
            for one in row.pairs:
                for other in row.pairs[:2]:
                    if one == other:
                        continue
                    told = gap_ranges(row, facts, one, other)
                    self.is_same([word for word, _, _ in told], [word for word, _ in fitting_words(row, facts)])
                    for word, low, high in told[:3]:
                        region = region_of(row, word)

                        def has(quotient):
                            lead = [a - quotient * b for a, b in zip(units[one], units[other])]
                            return region.fits(facts, level=[lead])

                        seen[self.judge(low, high, has)] += 1
        self.assertGreater(min(seen.values()), 10)


class ErrorsTest(Case):
    def test_wide_first(self):
        for facts in (None, [None], []):
            self.refused(Wide, {}, moment_ranges, WIDE, facts, 2, 1, most=0)
            self.refused(Wide, {}, gap_ranges, WIDE, facts, 0, 0, most=0)

    def test_facts_then_numbers_then_many_wedges(self):
        for what, facts in (
            ("facts", None),
            ("facts", [("count", 3)] * 13),
            ("fact", [["counts", 3]]),
            ("pair", [("count", 3), ("silent", 2)]),
            ("number", [("count", -1)]),
        ):
            self.refused(BadFact, {"what": what}, moment_ranges, ROW, facts, 2, 1, most=0)
            self.refused(BadFact, {"what": what}, gap_ranges, ROW, facts, 0, 0, most=0)

    def test_numbers(self):
        for thing in NO_WHOLES + (-1, 0, 801, 10**30, (2, 1)):
            self.refused(BadFact, {"what": "number"}, moment_ranges, ROW, NOTHING, thing, 5, most=0)
            self.refused(BadFact, {"what": "number"}, moment_ranges, ROW, NOTHING, 1, thing, most=0)
        for i, j in ((1, 1), (2, 1), (800, 800), (800, 801), (800, 3)):
            self.refused(BadFact, {"what": "number"}, moment_ranges, ROW, [], i, j)

    def test_pairs(self):
        for thing in NO_WHOLES + (-1, 2, 10**30):
            self.refused(BadFact, {"what": "pair"}, gap_ranges, ROW, NOTHING, thing, 1, most=0)
            self.refused(BadFact, {"what": "pair"}, gap_ranges, ROW, NOTHING, 0, thing, most=0)
        for pair in (0, 1):
            self.refused(BadFact, {"what": "pair"}, gap_ranges, ROW, [], pair, pair)

    def test_most_and_long(self):
        for call in (
            lambda row, **more: moment_ranges(row, NOTHING, 1, 2, **more),
            lambda row, **more: gap_ranges(row, NOTHING, 0, 1, **more),
        ):
            for row, count in ((ROW, 2), (FOUR, 4)):
                self.is_same(call(row), ())
                self.is_same(call(row, most=count), ())
                self.refused(TooMany, {"most": count - 1}, call, row, most=count - 1)
            with patch.object(wedges, "MOST_CLASHES", 2):
                self.refused(Long, {"count": 2}, call, ROW)
        for call in (moment_ranges, gap_ranges):
            parameter = inspect.signature(call).parameters["most"]
            self.is_same((parameter.default, parameter.kind.name), (400, "KEYWORD_ONLY"))

    def test_bad_sequences(self):
        for thing in NO_SEQUENCES:
            self.refused(BadFact, {"what": "facts"}, moment_ranges, ROW, thing, 1, 2)
            self.refused(BadFact, {"what": "facts"}, gap_ranges, ROW, thing, 0, 1)

    def test_what_is_passed_stays(self):
        facts = [["word", [0]], ["between", 1, 2, 0, (6, 2)]]
        moment_ranges(ROW, facts, 1, 2)
        gap_ranges(ROW, facts, 0, 1)
        self.is_same(facts, [["word", [0]], ["between", 1, 2, 0, (6, 2)]])


if __name__ == "__main__":
    unittest.main()
