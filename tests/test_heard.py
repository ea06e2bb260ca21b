"""[9.4] to [9.8] What follows of facts that were heard."""

import inspect
import unittest
from fractions import Fraction
from math import gcd
from random import Random
from unittest.mock import patch

from helping import NO_RATIOS, NO_SEQUENCES, Case, as_told
from oracle import WordGaps, claim_is_true, fact_is_true, is_solvable, whole_run
from samples import heard_cases, narrow_row, some_claim, some_fact, some_gaps

from untoldgaps import wedges
from untoldgaps.errors import BadClaim, BadFact, BadMoments, Long, NothingFits, TooMany, Wide
from untoldgaps.forms import forms_of
from untoldgaps.heard import decide_fact, decide_heard, explain_moments, fitting_words, needless_facts
from untoldgaps.rows import Row
from untoldgaps.verdicts import Mixed, Never, Sure, decide_claim
from untoldgaps.wedges import all_wedges, wedge_of

ROW = Row((1, 1, 1), (3, 0, -1))
FOUR = Row((1, 1, 1, 1), (1, 0, 0, -1))
WIDE = Row([1] * 5, [0] * 5)
SILENT = Row([1, 1, 1], [1, 0, 2])
# 136 wedges, of words of up to 23 pairs.
MANY = Row([1, 1, 9], [-6, -33, -34], True)
NOTHING = [("count", 0), ("count", 1)]
CALLS = (
    lambda row, **more: fitting_words(row, [], **more),
    lambda row, **more: decide_heard(row, [], ("count", 0, None), **more),
    lambda row, **more: decide_fact(row, [], ("count", 0), **more),
    lambda row, **more: needless_facts(row, [], **more),
    lambda row, **more: explain_moments(row, [1], **more),
)


def word_gaps(row):
    return [WordGaps(row, wedge.word, forms_of(row, wedge.word).moments) for wedge in all_wedges(row)]


class HeardCase(Case):
    def fit(self, row, gaps, facts, word=None):
        """Checks that gaps are written as told, lie in a wedge and fit the facts; returns word and end speeds."""
        self.assertIs(gaps.__class__, tuple)
        self.assertEqual(len(gaps), row.gap_count)
        self.assertEqual([gap.__class__ for gap in gaps], [int] * len(gaps))
        self.assertGreater(min(gaps), 0)
        self.assertEqual(gcd(*gaps), 1)
        self.assertIs(wedge_of(row, gaps).__class__, int)
        clashes, border, world = whole_run(row, gaps)
        self.assertIsNone(border)
        for fact in facts:
            self.assertTrue(fact_is_true(row, gaps, clashes, fact), fact)
        told = tuple([pair for _, pair, _ in clashes])
        if word is not None:
            self.is_same(told, word)
        return clashes, told, [as_told(speed) for speed in world.speeds]


class EliminationTest(unittest.TestCase):
    def test_some(self):
        """The elimination that judges the rest."""
        units = [[1, 0], [0, 1]]
        self.assertTrue(is_solvable(units, []))
        self.assertTrue(is_solvable(units + [[1, -2], [-1, 3]], []))
        self.assertFalse(is_solvable(units + [[1, -2], [-1, 1]], []))
        self.assertFalse(is_solvable(units + [[1, -2], [-1, 2]], []))
        self.assertTrue(is_solvable(units, [[1, -2]]))
        self.assertFalse(is_solvable(units, [[1, 2]]))
        self.assertFalse(is_solvable(units, [[1, -2], [1, -3]]))
        self.assertTrue(is_solvable(units, [[1, -2], [2, -4], [0, 0]]))
        self.assertFalse(is_solvable(units + [[0, 0]], []))


class FittingTest(HeardCase):
    def test_some(self):
        self.is_same([word for word, _ in fitting_words(ROW, [])], [(0, 1, 0), (1, 0, 1)])
        self.is_same([word for word, _ in fitting_words(ROW, [("word", [1])])], [(1, 0, 1)])
        self.is_same([word for word, _ in fitting_words(ROW, [("gaps", 0, 1, 0, 3)])], [(0, 1, 0)])
        self.is_same([word for word, _ in fitting_words(ROW, [("gaps", 0, 1, 0, (31, 10))])], [(0, 1, 0), (1, 0, 1)])
        self.is_same(fitting_words(ROW, [("count", 2)]), ())
        self.is_same(fitting_words(ROW, NOTHING), ())
        self.is_same(fitting_words(ROW, [("exact", 1, 2, 2)]),
                     (((0, 1, 0), (3, 5)), ((1, 0, 1), (7, 1))))

    def test_no_facts(self):
        for row, _, _ in heard_cases(491, 60, 0):
            told = fitting_words(row, ())
            self.is_same([word for word, _ in told], [wedge.word for wedge in all_wedges(row)])
            for word, gaps in told:
                self.fit(row, gaps, [], word)

    def test_against_elimination(self):
        """Just the words that some gaps fit are told, with gaps that do."""
        sizes = {}
        for row, facts, clashes in heard_cases(492, 350):
            told = fitting_words(row, facts)
            self.assertIs(told.__class__, tuple)
            expected = [each.word for each in word_gaps(row) if each.fits(facts)]
            self.is_same([word for word, _ in told], expected)
            for word, gaps in told:
                self.fit(row, gaps, facts, word)
            size = min(len(told), 3) if facts else None
            sizes[size] = sizes.get(size, 0) + 1
        self.assertEqual(len(sizes), 5)
        self.assertGreater(min(sizes.values()), 10)

    def test_exact_facts(self):
        """Facts that leave a line or a plane of the gaps, drawn from a run so that they fit it."""
        chance = Random(493)
        many = 0
        for row, _, clashes in heard_cases(494, 250, 0):
            moments = [moment for moment, _, _ in clashes]
            couples = [(i, j) for j in range(1, len(moments)) for i in range(j) if moments[i] < moments[j]]
            chosen = chance.sample(couples, min(len(couples), chance.choice((1, 2, 11))))
            facts = [("exact", i + 1, j + 1, as_told(moments[j] / moments[i])) for i, j in chosen]
            facts.append(("word", [pair for _, pair, _ in clashes]))
            told = fitting_words(row, facts)
            if len(set(moments)) == len(moments):
                self.assertEqual(len(told), 1)
                self.fit(row, told[0][1], facts)
                many += len(facts) > 2
            else:
                self.assertEqual(len(told), any(each.fits(facts) for each in word_gaps(row)))
        self.assertGreater(many, 40)

    def test_ratio_of_one_or_less(self):
        for row, _, _ in heard_cases(495, 60, 0):
            for ratio in (1, (1, 2), (10**9, 10**9 + 1)):
                self.is_same(fitting_words(row, [("exact", 1, 2, ratio)]), ())
            self.is_same(fitting_words(row, [("between", 1, 2, 0, 1)]), ())
        self.assertEqual(len(fitting_words(FOUR, [("exact", 1, 2, (10**9 + 1, 10**9))])), 4)

    def test_order_of_the_facts(self):
        chance = Random(496)
        for row, facts, _ in heard_cases(497, 80, 5):
            words = [word for word, _ in fitting_words(row, facts)]
            chance.shuffle(facts)
            told = fitting_words(row, facts)
            self.is_same([word for word, _ in told], words)
            for word, gaps in told:
                self.fit(row, gaps, facts, word)
            again = fitting_words(row, tuple(facts + facts[:1]))
            self.is_same([word for word, _ in again], words)

    def test_twelve_facts(self):
        facts = [("between", 1, 2, (k, 10), (30 - k, 10)) for k in range(12)]
        told = fitting_words(FOUR, facts)
        self.assertEqual(len(told), 4)
        for word, gaps in told:
            self.fit(FOUR, gaps, facts, word)

    def test_bounds_are_left_out(self):
        """Facts that touch the gaps of a word in its border alone fit none of them."""
        # (0, 1, 0) has the gaps whose ratio is below 3.
        self.is_same([word for word, _ in fitting_words(ROW, [("gaps", 0, 1, 3, None)])], [(1, 0, 1)])
        self.is_same(fitting_words(ROW, [("gaps", 0, 1, (29, 10), 3)])[0][0], (0, 1, 0))
        self.is_same(fitting_words(ROW, [("gaps", 0, 1, 2, 3), ("gaps", 1, 0, 0, (1, 3))]), ())
        self.is_same(fitting_words(ROW, [("gaps", 0, 1, 2, 5), ("gaps", 1, 0, (1, 2), None)]), ())

    def test_many(self):
        facts = [("between", 1, 10, 2, None), ("silent", 1)]
        self.is_same(fitting_words(MANY, facts), ())
        told = fitting_words(MANY, facts[:1])
        self.assertGreater(len(told), 20)
        for word, gaps in told:
            self.fit(MANY, gaps, facts[:1], word)


class DecideHeardTest(HeardCase):
    def test_some(self):
        facts = [("gaps", 0, 1, 0, 3)]
        self.assertTrue(decide_heard(ROW, facts, ("first", 0)) == Sure())
        self.assertTrue(decide_heard(ROW, facts, ("first", 1)) == Never())
        self.assertIs(decide_heard(ROW, [("gaps", 0, 1, 0, 4)], ("first", 1)).__class__, Mixed)
        # A silent pair tells nothing of the others.
        self.assertTrue(decide_heard(SILENT, [("silent", 1)], ("count", 1, 1)) == Sure())

    def test_against_elimination(self):
        chance = Random(498)
        seen = {Sure: 0, Never: 0, Mixed: 0, NothingFits: 0}
        for row, facts, _ in heard_cases(499, 300, 2):
            claim = some_claim(chance, row, chance.randint(0, 2))
            fitting = [each.word for each in word_gaps(row) if each.fits(facts)]
            if not fitting:
                self.refused(NothingFits, {}, decide_heard, row, facts, claim)
                seen[NothingFits] += 1
                continue
            ends = {wedge.word: wedge.speeds for wedge in all_wedges(row)}
            judged = [claim_is_true(claim, word, ends[word]) for word in fitting]
            told = decide_heard(row, facts, claim)
            self.is_same((told == Sure(), told == Never()), (all(judged), not any(judged)))
            if isinstance(told, Mixed):
                for gaps, holds in ((told.yes, True), (told.no, False)):
                    _, word, speeds = self.fit(row, gaps, facts)
                    self.is_same(claim_is_true(claim, word, speeds), holds)
            seen[told.__class__] += 1
        self.assertGreater(min(seen.values()), 10)

    def test_no_facts(self):
        chance = Random(500)
        for row, _, _ in heard_cases(501, 120, 0):
            claim = some_claim(chance, row, 2)
            told = decide_heard(row, [], claim)
            expected = decide_claim(row, claim)
            self.assertIs(told.__class__, expected.__class__)
            if isinstance(told, Mixed):
                for gaps, holds in ((told.yes, True), (told.no, False)):
                    _, word, speeds = self.fit(row, gaps, [])
                    self.is_same(claim_is_true(claim, word, speeds), holds)


class DecideFactTest(HeardCase):
    def test_some(self):
        facts = [("gaps", 0, 1, 0, 2)]
        self.assertTrue(decide_fact(ROW, facts, ("word", [0])) == Sure())
        self.assertTrue(decide_fact(ROW, facts, ("gaps", 0, 1, 0, 3)) == Sure())
        self.assertTrue(decide_fact(ROW, facts, ("gaps", 0, 1, 2, None)) == Never())
        self.assertIs(decide_fact(ROW, facts, ("gaps", 0, 1, 1, None)).__class__, Mixed)
        self.assertTrue(decide_fact(ROW, [("exact", 1, 2, 2)], ("between", 1, 2, 1, 3)) == Sure())
        self.assertTrue(decide_fact(ROW, [("exact", 1, 2, 2)], ("exact", 1, 2, (4, 2))) == Sure())
        self.assertTrue(decide_fact(ROW, [("exact", 1, 2, 2)], ("exact", 1, 2, 3)) == Never())
        self.assertTrue(decide_fact(ROW, [("exact", 1, 2, 2)], ("between", 1, 2, 2, None)) == Never())
        self.assertIs(decide_fact(ROW, [("exact", 1, 2, 2)], ("word", [0])).__class__, Mixed)
        self.assertTrue(decide_fact(ROW, [], ("count", 3)) == Sure())
        self.assertTrue(decide_fact(ROW, [], ("exact", 1, 2, 1)) == Never())

    def test_against_elimination(self):
        chance = Random(502)
        seen = {}
        for row, facts, clashes in heard_cases(503, 450, 2):
            fact = some_fact(chance, row, clashes)
            regions = word_gaps(row)
            if not any(each.fits(facts) for each in regions):
                self.refused(NothingFits, {}, decide_fact, row, facts, fact)
                seen[NothingFits] = seen.get(NothingFits, 0) + 1
                continue
            yes = any(each.fits(facts + [fact]) for each in regions)
            no = any(each.fits_without(facts, fact) for each in regions)
            told = decide_fact(row, facts, fact)
            self.is_same((told == Sure(), told == Never()), (not no, not yes))
            if isinstance(told, Mixed):
                self.fit(row, told.yes, facts + [fact])
                clashes, _, _ = self.fit(row, told.no, facts)
                self.assertFalse(fact_is_true(row, told.no, clashes, fact))
            key = (fact[0], told.__class__)
            seen[key] = seen.get(key, 0) + 1
        self.assertGreaterEqual(len(seen), 17)

    def test_twelve_facts_and_a_further_one(self):
        facts = [("between", 1, 2, (k, 10), (30 - k, 10)) for k in range(12)]
        self.assertTrue(decide_fact(ROW, facts, ("between", 1, 2, 1, 2)) == Sure())
        self.assertTrue(decide_fact(ROW, facts, ("between", 1, 2, 2, 3)) == Never())
        self.refused(BadFact, {"what": "facts"}, decide_fact, ROW, facts + facts[:1], ("count", 3))


class NeedlessTest(HeardCase):
    def test_some(self):
        self.is_same(needless_facts(ROW, []), ())
        self.is_same(needless_facts(ROW, [("count", 3)]), (0,))
        self.is_same(needless_facts(ROW, [("word", [0]), ("word", [0])]), (0, 1))
        self.is_same(needless_facts(ROW, [("word", [0])]), ())
        self.is_same(needless_facts(ROW, [("gaps", 0, 1, 0, 2), ("gaps", 0, 1, 0, 3), ("word", (0, 1))]), (1, 2))
        self.is_same(needless_facts(ROW, [("gaps", 0, 1, 0, 3), ("word", (0, 1))]), (0, 1))
        self.is_same(needless_facts(ROW, [("exact", 1, 2, 2), ("between", 1, 2, 1, 3)]), (1,))

    def test_against_decide_fact(self):
        many = 0
        for row, facts, _ in heard_cases(504, 200, 8, True):
            if not fitting_words(row, facts):
                self.refused(NothingFits, {}, needless_facts, row, facts)
                continue
            expected = []
            for k, fact in enumerate(facts):
                others = facts[:k] + facts[k + 1:]
                if decide_fact(row, others, fact) == Sure():
                    expected.append(k)
            self.is_same(needless_facts(row, facts), tuple(expected))
            many += 0 < len(expected) < len(facts)
            doubled = facts + facts[:1]
            if facts:
                told = needless_facts(row, doubled)
                self.assertIn(0, told)
                self.assertIn(len(facts), told)
        self.assertGreater(many, 40)


class ExplainTest(HeardCase):
    def test_example(self):
        self.is_same(explain_moments(ROW, [1, (3, 2), 3]), (((0, 1, 0), ((3, 1), (3, 1))),))

    def test_some(self):
        # The lines cross at a / 3, (a + b) / 4 and b.
        self.is_same(explain_moments(ROW, (1, 2, 5)), (((0, 1, 0), ((3, 1), (5, 1))),))
        self.is_same(explain_moments(ROW, (1, 2, (51, 10))), ())
        self.is_same(explain_moments(ROW, [1, 2, (7, 3)]), (((1, 0, 1), ((7, 1), (1, 1))),))
        self.is_same(explain_moments(ROW, [1, 2]), ())
        self.is_same(explain_moments(ROW, []), ())
        self.is_same(explain_moments(ROW, [1, 2, 3, 4]), ())
        self.is_same(explain_moments(Row([1, 1], [1, 0]), [(4, 6)]), (((0,), ((2, 3),)),))
        self.is_same(explain_moments(Row([1, 1], [1, (1, 3)]), ((3, 2),)), (((0,), ((1, 1),)),))

    def test_two_words(self):
        row = Row([1] * 4, [1, 0, 2, 1])
        told = explain_moments(row, [1, 2])
        self.is_same([word for word, _ in told], [(0, 2), (2, 0)])
        self.is_same([(gaps[0], gaps[2]) for _, gaps in told], [((1, 1), (2, 1)), ((2, 1), (1, 1))])

    def test_no_moments(self):
        row = Row([1, 2, 1], [0, 0, 1])
        ((word, gaps),) = explain_moments(row, [])
        self.is_same(word, ())
        self.are_told(gaps)
        self.assertEqual(len(gaps), 2)
        self.is_same(explain_moments(row, [1]), ())

    def test_drawn_runs(self):
        """The moments of a run are explained by its word, with its own gaps but for silent pairs."""
        chance = Random(505)
        seen = {"silent": 0, "two": 0, "runs": 0}
        for _ in range(600):
            row = narrow_row(chance, weights=chance.choice((1, 3, 9)))
            gaps = [as_told(Fraction(chance.randint(1, 30), chance.randint(1, 9))) for _ in row.pairs]
            clashes, border, _ = whole_run(row, gaps)
            moments = [moment for moment, _, _ in clashes]
            if border is not None or len(set(moments)) < len(moments):
                continue
            told = explain_moments(row, [as_told(moment) for moment in moments])
            word = tuple([pair for _, pair, _ in clashes])
            words = [each for each, _ in told]
            self.assertEqual(words, sorted(set(words)))
            self.assertIn(word, words)
            for each, found in told:
                self.are_told(found)
                again, rim, _ = whole_run(row, found)
                self.assertIsNone(rim)
                self.assertEqual([moment for moment, _, _ in again], moments)
                self.is_same(tuple([pair for _, pair, _ in again]), each)
                if each == word:
                    for pair, one, other in zip(row.pairs, found, gaps):
                        self.assertTrue(pair not in word or one == other)
            seen["silent"] += any(pair not in word for pair in row.pairs) and word != ()
            seen["two"] += len(told) > 1
            seen["runs"] += 1
        self.assertGreater(min(seen.values()), 10)

    def test_no_other_words(self):
        """Of each word the linear equations are looked at: where they have no gaps, it is not told."""
        chance = Random(506)
        left = 0
        for _ in range(150):
            row = narrow_row(chance, weights=chance.choice((1, 3)))
            regions = word_gaps(row)
            count = chance.choice([len(each.word) for each in regions])
            moments, last = [], Fraction(0)
            for _ in range(count):
                last += Fraction(chance.randint(1, 6), chance.choice((1, 2, 6)))
                moments.append(last)
            told = [word for word, _ in explain_moments(row, [as_told(moment) for moment in moments])]
            expected = []
            for each in regions:
                if len(each.word) == count:
                    # With the number 1 as one more gap the equations are rows at 0.
                    level = [list(form) + [-moment] for form, moment in zip(each.moments, moments)]
                    units = [[int(at == k) for at in range(row.gap_count + 1)] for k in range(row.gap_count + 1)]
                    if is_solvable(units, level):
                        expected.append(each.word)
            self.is_same(told, expected)
            left += len(expected) == 0
        self.assertGreater(left, 20)

    def test_bad_moments(self):
        for thing in NO_SEQUENCES:
            self.refused(BadMoments, {"what": "moments"}, explain_moments, ROW, thing)
        for thing in NO_RATIOS + (0, -1, (0, 1), (-1, 2)):
            self.refused(BadMoments, {"what": "moment"}, explain_moments, ROW, [thing, None])
            self.refused(BadMoments, {"what": "moment"}, explain_moments, ROW, [1, thing, 1])
        for moments in ([1, 1], [2, 1], [1, 3, 3], [(1, 2), (2, 4), None], [1, (1, 2), -1]):
            self.refused(BadMoments, {"what": "order"}, explain_moments, ROW, moments)
        self.is_same(explain_moments(ROW, [1] + [k for k in range(2, 1000)]), ())

    def test_what_is_passed_stays(self):
        moments = [1, (6, 4), 3]
        explain_moments(ROW, moments)
        self.is_same(moments, [1, (6, 4), 3])


class ErrorsTest(Case):
    def test_wide_first(self):
        for call in CALLS:
            self.refused(Wide, {}, call, WIDE, most=0)
        for thing in (None, [None], [("count", 3)] * 13):
            self.refused(Wide, {}, fitting_words, WIDE, thing)
            self.refused(Wide, {}, decide_heard, WIDE, thing, None)
            self.refused(Wide, {}, decide_fact, WIDE, thing, None)
            self.refused(Wide, {}, needless_facts, WIDE, thing)
            self.refused(Wide, {}, explain_moments, WIDE, thing)

    def test_facts_then_the_rest(self):
        for what, facts in (
            ("facts", None),
            ("facts", [("count", 3)] * 13),
            ("fact", [["counts", 3]]),
            ("pair", [("count", 3), ("silent", 2)]),
            ("number", [("count", -1), ("silent", 2)]),
        ):
            self.refused(BadFact, {"what": what}, fitting_words, ROW, facts, most=0)
            self.refused(BadFact, {"what": what}, decide_heard, ROW, facts, None, most=0)
            self.refused(BadFact, {"what": what}, decide_fact, ROW, facts, ("word", 7), most=0)
            self.refused(BadFact, {"what": what}, needless_facts, ROW, facts, most=0)
        self.refused(BadClaim, {"what": "kind"}, decide_heard, ROW, NOTHING, ("count", 3), most=0)
        self.refused(BadClaim, {"what": "pair"}, decide_heard, ROW, NOTHING, ("meets", 2), most=0)
        self.refused(BadFact, {"what": "word"}, decide_fact, ROW, NOTHING, ("word", 7), most=0)
        self.refused(BadMoments, {"what": "order"}, explain_moments, ROW, [1, 1], most=0)

    def test_many_wedges_ahead_of_nothing_fits(self):
        claim = ("count", 0, None)
        for most in (0, 1):
            self.refused(TooMany, {"most": most}, decide_heard, ROW, NOTHING, claim, most=most)
            self.refused(TooMany, {"most": most}, decide_fact, ROW, NOTHING, ("count", 3), most=most)
            self.refused(TooMany, {"most": most}, needless_facts, ROW, NOTHING, most=most)
            self.refused(TooMany, {"most": most}, fitting_words, ROW, NOTHING, most=most)
        self.refused(NothingFits, {}, decide_heard, ROW, NOTHING, claim, most=2)
        self.refused(NothingFits, {}, decide_fact, ROW, NOTHING, ("count", 3), most=2)
        self.refused(NothingFits, {}, needless_facts, ROW, NOTHING, most=2)

    def test_most(self):
        for row in (ROW, FOUR):
            count = len(all_wedges(row))
            for call in CALLS:
                call(row)
                call(row, most=count)
                self.refused(TooMany, {"most": count - 1}, call, row, most=count - 1)

    def test_long(self):
        with patch.object(wedges, "MOST_CLASHES", 2):
            for call in CALLS:
                self.refused(Long, {"count": 2}, call, ROW)

    def test_most_left_out(self):
        for call in (fitting_words, decide_heard, decide_fact, needless_facts, explain_moments):
            parameter = inspect.signature(call).parameters["most"]
            self.is_same((parameter.default, parameter.kind.name), (400, "KEYWORD_ONLY"))

    def test_what_is_passed_stays(self):
        facts = [["word", [0]], ["between", 1, 2, 0, (6, 2)]]
        fitting_words(ROW, facts)
        needless_facts(ROW, facts)
        decide_fact(ROW, facts, facts[0])
        decide_heard(ROW, facts, ("first", 0))
        self.is_same(facts, [["word", [0]], ["between", 1, 2, 0, (6, 2)]])


class DrawnGapsTest(HeardCase):
    def test_sure_and_never_hold_at_drawn_gaps(self):
        chance = Random(507)
        for row, facts, _ in heard_cases(508, 120, 1):
            fact = some_fact(chance, row)
            if not fitting_words(row, facts):
                continue
            told = decide_fact(row, facts, fact)
            for _ in range(10):
                gaps = some_gaps(chance, row, 40)
                clashes, border, _ = whole_run(row, gaps)
                moments = [moment for moment, _, _ in clashes]
                if border is None and len(set(moments)) == len(moments):
                    if all(fact_is_true(row, gaps, clashes, each) for each in facts):
                        holds = fact_is_true(row, gaps, clashes, fact)
                        self.assertFalse(told == (Never() if holds else Sure()))


if __name__ == "__main__":
    unittest.main()
