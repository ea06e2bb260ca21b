"""[5.7] to [5.10] Wedges."""

import inspect
import unittest
from fractions import Fraction
from math import gcd
from random import Random
from unittest.mock import patch

from helping import NO_RATIOS, NO_SEQUENCES, NO_WHOLES, Case, as_told
from oracle import whole_run
from samples import narrow_row, narrow_rows, some_gaps

from untoldgaps import wedges
from untoldgaps.clashing import coming_pairs
from untoldgaps.corners import find_corners, share_of, tight_rows
from untoldgaps.errors import BadGaps, BadWord, Long, NoPair, NotComing, TooMany, Wide
from untoldgaps.forms import forms_of
from untoldgaps.rows import Row
from untoldgaps.runs import Border, run_of
from untoldgaps.strict import Empty, Inner, Strict, strict_fault
from untoldgaps.wedges import Level, Wedge, all_wedges, wedge_of, word_gaps

ROW = Row((1, 1, 1, 1), (1, 0, 0, -1))
WIDE_ROWS = (Row([1] * 5, [0] * 5), Row([1] * 4, [4, 3, 2, 1], True), Row([1] * 40, [0] * 40))
STILL_ROWS = (Row([1, 2], [0, 0]), Row([3], [0], True), Row([1, 2, 3], [1, 2, 3]), Row([1] * 4, [0] * 4),
              Row([5, 1, 1], [0, 1, 2], True))
# 136 wedges, of words of up to 23 pairs.
MANY = Row([1, 1, 9], [-6, -33, -34], True)


def contents(wedge):
    return (wedge.word, wedge.rows, wedge.corners, wedge.gaps, wedge.speeds)


def word_of(clashes):
    return tuple([pair for _, pair, _ in clashes])


class AllWedgesTest(Case):
    def test_example(self):
        found = all_wedges(ROW)
        self.is_same(
            tuple([wedge.word for wedge in found]),
            ((0, 1, 2, 1, 0), (0, 2, 1, 2, 0), (2, 0, 1, 0, 2), (2, 1, 0, 1, 2)),
        )
        self.is_same([share_of(Strict(3, wedge.rows)) for wedge in found], [(1, 4)] * 4)
        self.is_same(contents(found[1])[1:4], (
            ((-1, 0, 1), (1, 1, -1)),
            ((0, 1, 0), (0, 1, 1), (1, 0, 1)),
            (1, 2, 2),
        ))
        self.is_same(found[1].speeds, ((-1, 1), (0, 1), (0, 1), (1, 1)))

    def test_nobody_comes(self):
        for row in STILL_ROWS:
            count = row.gap_count
            units = tuple(sorted([tuple([int(place == at) for place in range(count)]) for at in range(count)]))
            found = all_wedges(row)
            self.is_same([contents(wedge) for wedge in found], [((), (), units, (1,) * count, row.speeds)])

    def test_one_gap(self):
        found = all_wedges(Row([2, 1], [1, (1, 2)]))
        self.is_same([contents(each) for each in found], [((0,), (), ((1,),), (1,), ((2, 3), (7, 6)))])
        found = all_wedges(Row([4], [-3], True))
        self.is_same([contents(each) for each in found], [((-1,), (), ((1,),), (1,), ((3, 1),))])

    def test_two_gaps(self):
        found = all_wedges(Row([2, 1, 2], [2, 0, -1]))
        self.is_same([wedge.rows for wedge in found], [((-1, 2),), ((1, -2),)])
        self.is_same([wedge.corners for wedge in found], [((0, 1), (2, 1)), ((1, 0), (2, 1))])
        self.is_same([wedge.gaps for wedge in found], [(1, 1), (3, 1)])

    def test_each_wedge(self):
        kinds = set()
        for row in narrow_rows(261, 150):
            found = all_wedges(row)
            self.assertIs(found.__class__, tuple)
            words = [wedge.word for wedge in found]
            self.assertEqual(words, sorted(set(words)))
            kinds.add((row.gap_count, row.wall))
            total = Fraction(0)
            for wedge in found:
                self.assertIs(wedge.__class__, Wedge)
                clashes, border, world = whole_run(row, wedge.gaps)
                self.assertIsNone(border)
                self.is_same(word_of(clashes), wedge.word)
                moments = [moment for moment, _, _ in clashes]
                self.assertEqual(len(set(moments)), len(moments))
                self.is_same(wedge.speeds, tuple([as_told(speed) for speed in world.speeds]))
                strict = Strict(row.gap_count, forms_of(row, wedge.word).rows)
                self.is_same(wedge.rows, tight_rows(strict))
                self.is_same(wedge.corners, find_corners(strict))
                middle = [sum(numbers) for numbers in zip(*wedge.corners)]
                self.is_same(wedge.gaps, tuple([number // gcd(*middle) for number in middle]))
                total += Fraction(*share_of(strict))
            self.assertEqual(total, 1)
        self.assertEqual(len(kinds), 6)

    def test_all_gaps_lie_in_them(self):
        chance = Random(262)
        for row in narrow_rows(263, 60):
            found = all_wedges(row)
            for _ in range(6):
                gaps = [(chance.randint(1, 10**6), chance.randint(1, 10**6)) for _ in row.pairs]
                clashes, border, _ = whole_run(row, gaps)
                self.assertIsNone(border)
                inside = [Strict(row.gap_count, wedge.rows).holds_at(gaps) for wedge in found]
                self.assertEqual(inside.count(True), 1)
                self.is_same(found[inside.index(True)].word, word_of(clashes))

    def test_many(self):
        found = all_wedges(MANY)
        self.assertEqual(len(found), 136)
        self.assertEqual(max(len(wedge.word) for wedge in found), 23)
        self.assertEqual(sum(Fraction(*share_of(Strict(3, wedge.rows))) for wedge in found), 1)

    def test_great_numbers(self):
        row = Row([2, 1, 3, 1], [10**120, (1, 10**90), 0, (-7, 10**101 + 1)])
        found = all_wedges(row)
        self.assertEqual(sum(Fraction(*share_of(Strict(3, wedge.rows))) for wedge in found), 1)
        for wedge in found:
            self.is_same(run_of(row, wedge.gaps).word, wedge.word)

    def test_wide(self):
        for row in WIDE_ROWS:
            self.refused(Wide, {}, all_wedges, row)
            self.refused(Wide, {}, all_wedges, row, most=0)

    def test_most(self):
        for row in [ROW, MANY, *STILL_ROWS, *narrow_rows(264, 20)]:
            found = all_wedges(row)
            self.assertEqual(all_wedges(row, most=len(found)), found)
            self.assertEqual(all_wedges(row, most=len(found) + 1), found)
            self.refused(TooMany, {"most": len(found) - 1}, all_wedges, row, most=len(found) - 1)
            self.refused(TooMany, {"most": 0}, all_wedges, row, most=0)

    def test_most_left_out(self):
        """No row is known that has more than 400 wedges: what stands for the number left out is looked at."""
        for call in (all_wedges, wedge_of):
            parameter = inspect.signature(call).parameters["most"]
            self.is_same((parameter.default, parameter.kind.name), (400, "KEYWORD_ONLY"))
        with self.assertRaises(TypeError):
            all_wedges(ROW, 4)

    def test_long(self):
        """No narrow row is known with words of more than 800 clashes: fewer are let here."""
        with patch.object(wedges, "MOST_CLASHES", 5):
            self.assertEqual(len(all_wedges(ROW)), 4)
        with patch.object(wedges, "MOST_CLASHES", 4):
            self.refused(Long, {"count": 4}, all_wedges, ROW)
            self.refused(Long, {"count": 4}, wedge_of, ROW, [1, 2, 3])
            self.refused(BadGaps, {"what": "length"}, wedge_of, ROW, [1, 2])

    def test_equality(self):
        values = {"word": (0,), "rows": ((1, -1),), "corners": ((1, 0),), "gaps": (3, 1), "speeds": ((1, 1),)}
        wedge = Wedge(**values)
        self.assertTrue(wedge == Wedge(**values))
        for name in values:
            other = Wedge(**{**values, name: ()})
            self.assertFalse(wedge == other, name)
            self.assertTrue(wedge != other, name)
        self.assertFalse(wedge == tuple(values.values()))
        self.assertFalse(wedge == None)  # noqa: E711

    def test_constructors_keep_all(self):
        values = ([0], "rows", None, {1: 2}, [True])
        wedge = Wedge(*values)
        for name, value in zip(("word", "rows", "corners", "gaps", "speeds"), values):
            self.assertIs(getattr(wedge, name), value)
        level = Level(values[0], values[3])
        self.assertIs(level.moment, values[0])
        self.assertIs(level.pairs, values[3])


class WedgeOfTest(Case):
    def test_in_a_wedge(self):
        for row in [*narrow_rows(265, 60), *STILL_ROWS]:
            for index, wedge in enumerate(all_wedges(row)):
                self.is_same(wedge_of(row, wedge.gaps), index)
                self.is_same(wedge_of(row, [(gap, 7) for gap in wedge.gaps]), index)

    def test_level(self):
        level = wedge_of(ROW, [(1, 2), 3, (1, 2)])
        self.assertIs(level.__class__, Level)
        self.is_same((level.moment, level.pairs), ((1, 2), (0, 2)))
        self.assertTrue(level == Level((1, 2), (0, 2)))
        # The first of two levels is told.
        row = Row([1] * 4, [2, 1, 1, 0])
        self.assertEqual(wedge_of(row, [1, 1, 1]), Level((1, 1), (0, 2)))
        self.assertEqual(wedge_of(Row([1, 1, 1], [-1, 0, -1], True), [2, 5, 2]), Level((2, 1), (-1, 1)))
        # A level behind other clashes: pairs 1 and -1 meet at 1, when ball 0 has come back from ball 1.
        self.assertEqual(wedge_of(Row([1, 1, 1], [1, -2, -4], True), [1, 1, 4]), Level((1, 1), (-1, 1)))

    def test_border(self):
        row = Row([2, 1, 2], [1, 0, -1])
        border = wedge_of(row, [3, 3])
        self.assertIs(border.__class__, Border)
        self.assertEqual(border, run_of(row, [3, 3]))

    def test_level_ahead_of_a_border(self):
        for row, gaps in (
            (Row([1, 1, 2], [-2, 2, -2], True), [1, 1, 2]),
            (Row([3, 2, 1, 3], [2, -1, 0, -3]), [3, 3, 3]),
            (Row([1, 1, 3], [-3, -2, -1], True), [1, 2, 2]),
        ):
            clashes, border, _ = whole_run(row, gaps)
            moments = [moment for moment, _, _ in clashes]
            self.assertLess(len(set(moments)), len(moments))
            told = wedge_of(row, gaps)
            self.assertIs(told.__class__, Border)
            self.is_same((told.moment, told.word), (as_told(border[0]), word_of(clashes)))
            self.assertEqual(told, run_of(row, gaps))

    def test_against_runs(self):
        chance = Random(266)
        seen = {int: 0, Border: 0, Level: 0}
        for _ in range(1000):
            row = narrow_row(chance, chance.choice((None, 3)), weights=3, size=3, parts=1)
            gaps = some_gaps(chance, row, chance.choice((2, 2, 20)))
            clashes, border, _ = whole_run(row, gaps)
            told = wedge_of(row, gaps)
            seen[told.__class__] += 1
            if border:
                self.assertEqual(told, Border(as_told(border[0]), border[1], word_of(clashes)))
                continue
            moments = [moment for moment, _, _ in clashes]
            at = next((k for k in range(1, len(moments)) if moments[k] == moments[k - 1]), None)
            if at is not None:
                self.assertTrue(told == Level(as_told(moments[at]), word_of(clashes)[at - 1:at + 1]))
                self.assertLess(*told.pairs)
            else:
                self.is_same(all_wedges(row)[told].word, word_of(clashes))
        self.assertGreater(min(seen.values()), 10)

    def test_level_equality(self):
        level = Level((1, 2), (0, 2))
        self.assertTrue(level == Level((1, 2), (0, 2)))
        border = Border((1, 2), (0, 2), ())
        for other in (Level((1, 3), (0, 2)), Level((1, 2), (-1, 1)), ((1, 2), (0, 2)), border, None):
            self.assertFalse(level == other)
            self.assertTrue(level != other)

    def test_errors_in_their_order(self):
        for row in WIDE_ROWS:
            for gaps in (None, [0] * row.gap_count, [1] * row.gap_count):
                self.refused(Wide, {}, wedge_of, row, gaps, most=0)
        for most in (0, 3, 400):
            for thing in NO_SEQUENCES + ([], [1, 2], [1, 2, 3, 4]):
                self.refused(BadGaps, {"what": "length"}, wedge_of, ROW, thing, most=most)
            for thing in NO_RATIOS + (0, -1, (0, 1)):
                self.refused(BadGaps, {"what": "gap"}, wedge_of, ROW, [1, thing, 1], most=most)
        # In a wedge, on a border of other weights and on a level.
        for row, gaps in ((ROW, [1, 2, 3]), (Row([3, 2, 1, 3], [2, -1, 0, -3]), [3, 3, 3]), (ROW, [1, 1, 1])):
            count = len(all_wedges(row))
            self.refused(TooMany, {"most": count - 1}, wedge_of, row, gaps, most=count - 1)
            wedge_of(row, gaps, most=count)


class WordGapsTest(Case):
    def test_words_of_wedges(self):
        for row in narrow_rows(267, 40):
            for wedge in all_wedges(row):
                for length in range(len(wedge.word) + 1):
                    word = list(wedge.word[:length])
                    told = word_gaps(row, word)
                    self.assertIs(told.__class__, Inner)
                    clashes, border, _ = whole_run(row, told.gaps)
                    self.is_same(word_of(clashes)[:length], tuple(word))
                    moments = [moment for moment, _, _ in clashes] + ([border[0]] if border else [])
                    self.assertTrue(all(moments.count(moment) == 1 for moment in moments[:length]))
                    self.assertIsNone(strict_fault(Strict(row.gap_count, forms_of(row, word).rows), told))

    def test_all_words(self):
        """Of all words along which the pairs come, just those begin a run that begin the word of a wedge."""
        seen = {Inner: 0, Empty: 0}
        for row in narrow_rows(268, 100):
            begins = {wedge.word[:length] for wedge in all_wedges(row) for length in range(len(wedge.word) + 1)}
            words = [()]
            for word in words:
                told = word_gaps(row, word)
                seen[told.__class__] += 1
                self.is_same(isinstance(told, Inner), word in begins)
                self.assertIsNone(strict_fault(Strict(row.gap_count, forms_of(row, word).rows), told))
                if len(word) < 7:
                    words.extend([word + (pair,) for pair in forms_of(row, word).coming])
        self.assertGreater(min(seen.values()), 30)

    def test_no_run(self):
        # Its history has a run, this order of it has none.
        told = word_gaps(ROW, (0, 2, 1, 0, 2))
        self.assertIs(told.__class__, Empty)
        self.assertEqual(len(told.weights), len(forms_of(ROW, (0, 2, 1, 0, 2)).rows) + 3)

    def test_empty_word(self):
        self.assertIs(word_gaps(ROW, []).__class__, Inner)
        self.assertIs(word_gaps(STILL_ROWS[0], ()).__class__, Inner)

    def test_errors_in_their_order(self):
        for row in WIDE_ROWS:
            for word in (None, [99], [], [0]):
                self.refused(Wide, {}, word_gaps, row, word)
        for thing in NO_SEQUENCES + ([0] * 801,):
            self.refused(BadWord, {"index": 0, "what": "word"}, word_gaps, ROW, thing)
        for thing in NO_WHOLES + (-1, 3):
            self.refused(NoPair, {"pair": thing}, word_gaps, ROW, [1, 1, thing])
        self.refused(NotComing, {"index": 0}, word_gaps, ROW, [1, 1])
        self.refused(NotComing, {"index": 2}, word_gaps, ROW, [0, 2, 2])
        self.assertEqual(coming_pairs(ROW), (0, 2))


if __name__ == "__main__":
    unittest.main()
