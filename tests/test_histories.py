"""[5.11], [5.12] Histories."""

import inspect
import unittest
from fractions import Fraction
from math import gcd
from random import Random
from unittest.mock import patch

from helping import NO_RATIOS, NO_SEQUENCES, NO_WHOLES, Case, as_told
from oracle import whole_run
from samples import narrow_row, narrow_rows, some_gaps

from untoldgaps import wedges
from untoldgaps.corners import find_corners, share_of, tight_rows
from untoldgaps.errors import BadGaps, BadWord, Long, TooMany, Wide
from untoldgaps.forms import forms_of
from untoldgaps.histories import History, all_histories, history_of, least_word, same_history
from untoldgaps.rows import Row
from untoldgaps.runs import Border, run_of
from untoldgaps.strict import Strict
from untoldgaps.wedges import Level, all_wedges, wedge_of

ROW = Row((1, 1, 1, 1), (1, 0, 0, -1))
WIDE_ROWS = (Row([1] * 5, [0] * 5), Row([1] * 4, [4, 3, 2, 1], True))


def all_exchanged(word):
    """All words to which exchanges of far-apart neighbours lead, gone through one by one."""
    found = {tuple(word)}
    fresh = [tuple(word)]
    while fresh:
        told = fresh.pop()
        for at in range(len(told) - 1):
            if abs(told[at] - told[at + 1]) >= 2:
                other = told[:at] + (told[at + 1], told[at]) + told[at + 2:]
                if other not in found:
                    found.add(other)
                    fresh.append(other)
    return found


def rule_rows(row, word):
    """The strict rows of a history as the document tells them."""
    moments = [[Fraction(*number) for number in form] for form in forms_of(row, word).moments]
    rows = []
    for at, pair in enumerate(word):
        for near in (pair - 1, pair + 1):
            ahead = [k for k in range(at) if word[k] == near]
            if ahead:
                rows.append([as_told(late - soon) for late, soon in zip(moments[at], moments[ahead[-1]])])
    return rows


def contents(history):
    return (history.word, history.words, history.rows, history.corners, history.gaps, history.speeds)


class WordsTest(Case):
    def test_example(self):
        self.is_same(same_history((0, 2, 1, 2, 0), (2, 0, 1, 0, 2)), True)
        self.is_same(least_word((0, 2, 1, 2, 0)), (0, 2, 1, 0, 2))
        self.is_same(least_word([2, 0, 1, 0, 2]), (0, 2, 1, 0, 2))

    def test_against_all_exchanges(self):
        chance = Random(281)
        seen = {True: 0, False: 0}
        for _ in range(600):
            pairs = chance.choice(((-1, 0, 1), (0, 1, 2), (-1, 0, 1, 2, 3), (5, 30, 38)))
            word = [chance.choice(pairs) for _ in range(chance.randint(0, 6))]
            words = all_exchanged(word)
            self.is_same(least_word(word), min(words))
            other = chance.choice((chance.sample(word, len(word)), list(chance.choice(sorted(words)))))
            same = tuple(other) in words
            self.is_same(same_history(word, other), same)
            self.is_same(same_history(other, tuple(word)), same)
            seen[same] += 1
        self.assertGreater(min(seen.values()), 50)

    def test_other_words(self):
        self.is_same(same_history([], ()), True)
        self.is_same(least_word([]), ())
        # Strikes are no exchanges.
        self.is_same(same_history([0, 0], []), False)
        self.is_same(least_word([3, 3, 0]), (0, 3, 3))
        self.is_same(same_history([0, 1], [1, 0]), False)
        self.is_same(same_history([0, 2], [0, 2, 2]), False)
        # Equal pairs are not exchanged, neighbouring pairs neither: -1 and 0 share a ball.
        self.is_same(same_history([-1, 0], [0, -1]), False)
        self.is_same(same_history([-1, 1], [1, -1]), True)

    def test_long_words(self):
        word = [2, 0] * 400
        self.is_same(least_word(word), (0,) * 400 + (2,) * 400)
        self.is_same(same_history(word, word[::-1]), True)
        self.refused(BadWord, {"index": 0, "what": "word"}, least_word, word + [0])
        self.refused(BadWord, {"index": 0, "what": "word"}, same_history, word, [0] * 801)

    def test_errors(self):
        for thing in NO_SEQUENCES + ([None] * 801,):
            self.refused(BadWord, {"index": 0, "what": "word"}, least_word, thing)
            self.refused(BadWord, {"index": 0, "what": "word"}, same_history, thing, [99])
            self.refused(BadWord, {"index": 0, "what": "word"}, same_history, [0], thing)
        for thing in NO_WHOLES + (-2, 39, 10**30):
            self.refused(BadWord, {"index": 2, "what": "pair"}, least_word, [-1, 38, thing, None])
            self.refused(BadWord, {"index": 1, "what": "pair"}, same_history, (0, thing), None)
            self.refused(BadWord, {"index": 0, "what": "pair"}, same_history, (0, 1), (thing, thing))


class AllHistoriesTest(Case):
    def test_example(self):
        found = all_histories(ROW)
        self.is_same([history.word for history in found], [(0, 1, 2, 1, 0), (0, 2, 1, 0, 2), (2, 1, 0, 1, 2)])
        middle = found[1]
        self.is_same(contents(middle), (
            (0, 2, 1, 0, 2),
            ((0, 2, 1, 2, 0), (2, 0, 1, 0, 2)),
            ((-1, 1, 1), (1, 1, -1)),
            ((0, 1, 0), (0, 1, 1), (1, 0, 1), (1, 1, 0)),
            (2, 3, 2),
            ((-1, 1), (0, 1), (0, 1), (1, 1)),
        ))
        # The least word has no wedge itself.
        self.assertNotIn(middle.word, [wedge.word for wedge in all_wedges(ROW)])

    def test_no_clash(self):
        found = all_histories(Row([1, 2, 3], [0, 0, 0]))
        self.is_same(
            [contents(history) for history in found],
            [((), ((),), (), ((0, 1), (1, 0)), (1, 1), ((0, 1),) * 3)],
        )
        found = all_histories(Row([7], [-2], True))
        self.is_same([contents(each) for each in found], [((-1,), ((-1,),), (), ((1,),), (1,), ((2, 1),))])

    def test_clashes_far_apart(self):
        # Whichever of the pairs 0 and 2 comes first: one history of all gaps.
        found = all_histories(Row([1] * 4, [1, 0, 5, 4]))
        self.is_same([contents(each)[:5] for each in found], [(
            (0, 2), ((0, 2), (2, 0)), (), ((0, 0, 1), (0, 1, 0), (1, 0, 0)), (1, 1, 1)
        )])

    def test_each_history(self):
        several = 0
        for row in narrow_rows(282, 120):
            found = all_histories(row)
            self.assertIs(found.__class__, tuple)
            words = [history.word for history in found]
            self.assertEqual(words, sorted(set(words)))
            told = all_wedges(row)
            self.assertEqual(sorted(word for history in found for word in history.words), [each.word for each in told])
            total = Fraction(0)
            for history in found:
                self.assertIs(history.__class__, History)
                self.is_same(history.words, tuple(sorted(history.words)))
                mine = [wedge for wedge in told if wedge.word in history.words]
                self.assertTrue(all(word in all_exchanged(history.word) for word in history.words))
                self.is_same(history.word, min(all_exchanged(mine[0].word)))
                strict = Strict(row.gap_count, rule_rows(row, history.word))
                self.is_same(history.rows, tight_rows(strict))
                self.is_same(history.corners, find_corners(strict))
                middle = [sum(numbers) for numbers in zip(*history.corners)]
                self.is_same(history.gaps, tuple([number // gcd(*middle) for number in middle]))
                for wedge in mine:
                    self.is_same(wedge.speeds, history.speeds)
                    self.is_same(strict.holds_at(wedge.gaps), True)
                share = share_of(Strict(row.gap_count, history.rows))
                parts = [share_of(Strict(row.gap_count, wedge.rows)) for wedge in mine]
                self.assertEqual(Fraction(*share), sum(Fraction(*part) for part in parts))
                total += Fraction(*share)
                several += len(mine) > 1
            self.assertEqual(total, 1)
        self.assertGreater(several, 30)

    def test_sets_of_runs(self):
        """Gaps keep the rows of a history exactly if their run has it, levels let."""
        chance = Random(283)
        borders = 0
        for _ in range(500):
            row = narrow_row(chance, chance.choice((None, 3)), weights=3, size=3, parts=1)
            gaps = some_gaps(chance, row, chance.choice((2, 2, 20)))
            clashes, border, _ = whole_run(row, gaps)
            borders += border is not None
            word = tuple([pair for _, pair, _ in clashes])
            for history in all_histories(row):
                inside = Strict(row.gap_count, history.rows).holds_at(gaps)
                self.is_same(inside, border is None and word in all_exchanged(history.word))
        self.assertGreater(borders, 10)

    def test_errors(self):
        for row in WIDE_ROWS:
            self.refused(Wide, {}, all_histories, row, most=0)
        # What is counted are the wedges, four, and not the histories, three.
        self.refused(TooMany, {"most": 3}, all_histories, ROW, most=3)
        self.assertEqual(all_histories(ROW, most=4), all_histories(ROW))
        with patch.object(wedges, "MOST_CLASHES", 4):
            self.refused(Long, {"count": 4}, all_histories, ROW)
        for call in (all_histories, history_of):
            parameter = inspect.signature(call).parameters["most"]
            self.is_same((parameter.default, parameter.kind.name), (400, "KEYWORD_ONLY"))

    def test_equality(self):
        values = dict(word=(0,), words=((0,),), rows=((1, -1),), corners=((1, 0),), gaps=(3, 1), speeds=((1, 1),))
        history = History(**values)
        self.assertTrue(history == History(**values))
        for name in values:
            other = History(**{**values, name: ()})
            self.assertFalse(history == other, name)
            self.assertTrue(history != other, name)
        self.assertFalse(history == tuple(values.values()))

    def test_constructor_keeps_all(self):
        values = ([0], "words", None, {1: 2}, [True], 7)
        history = History(*values)
        for name, value in zip(("word", "words", "rows", "corners", "gaps", "speeds"), values):
            self.assertIs(getattr(history, name), value)


class HistoryOfTest(Case):
    def test_in_wedges(self):
        for row in narrow_rows(284, 60):
            found = all_histories(row)
            for wedge in all_wedges(row):
                index = history_of(row, wedge.gaps)
                self.assertIs(index.__class__, int)
                self.assertIn(wedge.word, found[index].words)

    def test_on_a_level(self):
        for gaps in ([1, 1, 1], [(1, 2), 3, (1, 2)]):
            self.assertIs(wedge_of(ROW, gaps).__class__, Level)
            self.is_same(history_of(ROW, gaps), 1)

    def test_on_a_border(self):
        row = Row([2, 1, 2], [1, 0, -1])
        self.assertEqual(history_of(row, [3, 3]), run_of(row, [3, 3]))
        # A level ahead of it changes nothing.
        row = Row([3, 2, 1, 3], [2, -1, 0, -3])
        border = history_of(row, [3, 3, 3])
        self.assertIs(border.__class__, Border)
        self.assertEqual(border, run_of(row, [3, 3, 3]))

    def test_against_runs(self):
        chance = Random(285)
        levels = 0
        for _ in range(300):
            row = narrow_row(chance, chance.choice((None, 3)), weights=2, size=3, parts=1)
            gaps = some_gaps(chance, row, 2)
            clashes, border, _ = whole_run(row, gaps)
            told = history_of(row, gaps)
            word = tuple([pair for _, pair, _ in clashes])
            if border:
                self.assertEqual(told, Border(as_told(border[0]), border[1], word))
            else:
                self.is_same(all_histories(row)[told].word, min(all_exchanged(word)))
                moments = [moment for moment, _, _ in clashes]
                levels += len(set(moments)) < len(moments)
        self.assertGreater(levels, 5)

    def test_errors_in_their_order(self):
        for row in WIDE_ROWS:
            for gaps in (None, [0] * row.gap_count, [1] * row.gap_count):
                self.refused(Wide, {}, history_of, row, gaps, most=0)
        for thing in NO_SEQUENCES + ([], [1, 2]):
            self.refused(BadGaps, {"what": "length"}, history_of, ROW, thing, most=0)
        for thing in NO_RATIOS + (0, -1):
            self.refused(BadGaps, {"what": "gap"}, history_of, ROW, [1, 1, thing], most=0)
        for gaps in ([1, 2, 3], [1, 1, 1]):
            self.refused(TooMany, {"most": 3}, history_of, ROW, gaps, most=3)
            history_of(ROW, gaps, most=4)
        row = Row([2, 1, 2], [1, 0, -1])
        self.refused(TooMany, {"most": 1}, history_of, row, [1, 1], most=1)


if __name__ == "__main__":
    unittest.main()
