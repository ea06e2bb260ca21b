"""[3.11] to [3.14] Forms."""

import unittest
from copy import copy
from fractions import Fraction
from itertools import product
from math import gcd
from random import Random

from helping import NO_SEQUENCES, NO_WHOLES, Case, as_told
from oracle import World, clash, closing, fractions, whole_run
from samples import some_gaps, some_row

from untoldgaps.clashing import after_word, coming_pairs, first_not_coming
from untoldgaps.errors import BadWord, NoPair, NotComing
from untoldgaps.forms import Forms, forms_of, longer_forms, value_of
from untoldgaps.rows import Row
from untoldgaps.runs import Border, run_of

ROW = Row([2, 1, 2], [1, 0, -1])


def contents(forms):
    return (
        forms.word,
        forms.moments,
        forms.speeds,
        forms.gaps,
        forms.coming,
        forms.arrivals,
        forms.rows,
        forms.is_over,
    )


class Blind(World):
    """A world that lets the pairs of a word clash, whether others would come first or not."""

    def clash_in_turn(self, pair):
        self.wait(self.gap(pair) / closing(self.speeds, pair))
        self.speeds = clash(self.weights, self.speeds, pair)


def plain_forms(row, word):
    """All forms of a word, gap by gap: a form is what comes of gaps that are 1 at one place and 0 elsewhere."""
    worlds = [Blind(row, [1 if k == at else 0 for k in range(row.gap_count)]) for at in range(row.gap_count)]
    moments, rows = [], []
    for pair in word:
        arrivals = {
            other: [world.moment + world.times()[other] for world in worlds] for other in worlds[0].times()
        }
        for other in sorted(arrivals):
            if other != pair:
                rows.append(lowest([late - soon for late, soon in zip(arrivals[other], arrivals[pair])]))
        for world in worlds:
            world.clash_in_turn(pair)
        moments.append([world.moment for world in worlds])
    coming = sorted(worlds[0].times())
    return {
        "moments": told(moments),
        "speeds": told([worlds[0].speeds])[0],
        "gaps": told(zip(*[world.gaps() for world in worlds])),
        "coming": tuple(coming),
        "arrivals": told([[world.moment + world.times()[pair] for world in worlds] for pair in coming]),
        "rows": tuple(dict.fromkeys(rows)),
    }


def told(forms):
    return tuple([tuple([as_told(Fraction(number)) for number in form]) for form in forms])


def lowest(numbers):
    bottom = 1
    for number in numbers:
        bottom *= number.denominator
    wholes = [int(number * bottom) for number in numbers]
    common = gcd(*wholes)
    return tuple([whole // common for whole in wholes])


def words_of(row, longest):
    """All words of the row up to a length of which each pair comes."""
    for length in range(longest + 1):
        for word in product(row.pairs, repeat=length):
            if first_not_coming(row, word) is None:
                yield word


class FormsOfTest(Case):
    def test_example(self):
        forms = forms_of(ROW, [0, 1])
        self.is_same(
            [forms.moments, forms.gaps, forms.rows, forms.coming, forms.is_over, value_of(forms.moments[1], [1, 2])],
            [
                (((1, 1), (0, 1)), ((4, 7), (3, 7))),
                (((-3, 7), (3, 7)), ((0, 1), (0, 1))),
                ((-1, 1),),
                (0,),
                False,
                (10, 7),
            ],
        )

    def test_word_of_nothing(self):
        forms = forms_of(ROW, [])
        self.is_same(contents(forms), (
            (),
            (),
            ROW.speeds,
            (((1, 1), (0, 1)), ((0, 1), (1, 1))),
            (0, 1),
            (((1, 1), (0, 1)), ((0, 1), (1, 1))),
            (),
            False,
        ))
        self.is_same(forms_of(Row([1, 1], [0, 0], True), ()).is_over, True)
        self.is_same(forms_of(Row([1], [-1], True), ()).arrivals, (((1, 1),),))

    def test_end(self):
        forms = forms_of(ROW, (0, 1, 0, 1))
        self.is_same((forms.coming, forms.arrivals, forms.is_over), ((), (), True))
        self.is_same(forms.speeds, ((-29, 27), (32, 81), (71, 81)))

    def test_no_runs_word(self):
        # No gaps above 0 give a run this word without a level, but it is followed all the same.
        row = Row([1, 1, 1, 1], [1, 0, 0, -1])
        word = (0, 2, 1, 0, 2)
        self.assertIsNone(first_not_coming(row, word))
        forms = forms_of(row, word)
        self.is_same(forms.word, word)
        self.is_same(forms.moments[3:], (((0, 1), (1, 1), (1, 1)), ((1, 1), (1, 1), (0, 1))))
        self.assertTrue({(-1, 0, 1), (1, 0, -1)} <= set(forms.rows))
        self.assertTrue(forms.is_over)
        # Here the moments along the word fall, and so the gaps at the last of them go back.
        forms = forms_of(Row([1] * 4, [9, 0, 1, 0]), (2, 0))
        self.is_same(forms.moments, (((0, 1), (0, 1), (1, 1)), ((1, 9), (0, 1), (0, 1))))
        self.is_same(forms.gaps, (
            ((0, 1), (0, 1), (0, 1)),
            ((0, 1), (1, 1), (1, 1)),
            ((1, 9), (0, 1), (-1, 1)),
        ))

    def test_against_the_rules(self):
        chance = Random(101)
        for _ in range(60):
            row = some_row(chance, most=4, weights=chance.choice((1, 3)))
            for word in words_of(row, 4):
                forms = forms_of(row, word)
                plain = plain_forms(row, word)
                self.is_same(forms.word, word)
                for name, value in plain.items():
                    self.is_same(getattr(forms, name), value)
                self.assertIs(forms.is_over, not plain["coming"])
                self.assertEqual(forms.coming, coming_pairs(after_word(row, word)))

    def test_each_row_once(self):
        row = Row([1] * 4, [3, 2, 1, 0])
        forms = forms_of(row, (0, 1, 0, 2, 1, 0))
        self.assertEqual(len(set(forms.rows)), len(forms.rows))
        # The first clash alone gives a row for each of the two other pairs that come, ascending.
        self.is_same(forms_of(row, (1,)).rows, ((1, -1, 0), (0, -1, 1)))
        self.is_same(forms.rows[:2], ((-1, 1, 0), (-1, 0, 1)))

    def test_rows_tell_of_runs(self):
        """All rows are above 0 exactly if the run begins with the word, with no border and no level in it."""
        chance = Random(102)
        seen = {True: 0, False: 0}
        for _ in range(80):
            row = some_row(chance, most=4, weights=3, parts=1)
            for word in words_of(row, 3):
                if not word:
                    continue
                gaps = some_gaps(chance, row, chance.choice((2, 20)))
                forms = forms_of(row, word)
                keeps = all(value_of(each, gaps)[0] > 0 for each in forms.rows)
                clashes, border, _ = whole_run(row, gaps)
                begins = tuple([pair for _, pair, _ in clashes[: len(word)]]) == word
                moments = [moment for moment, _, _ in clashes] + ([border[0]] if border else [])
                lone = all(moments.count(moment) == 1 for moment in moments[: len(word)])
                self.is_same(keeps, begins and lone)
                seen[keeps] += 1
                if keeps:
                    values = tuple([value_of(moment, gaps) for moment in forms.moments])
                    self.assertEqual([Fraction(*value) for value in values], moments[: len(word)])
                    run = run_of(row, gaps)
                    if not isinstance(run, Border) and run.word == word:
                        self.assertEqual(tuple([value_of(gap, gaps) for gap in forms.gaps]), run.gaps)
                        self.assertEqual((values, forms.speeds), (run.moments, run.speeds))
        self.assertGreater(min(seen.values()), 50)

    def test_no_row_is_all_zeros(self):
        chance = Random(103)
        for _ in range(60):
            row = some_row(chance, weights=2, parts=1)
            for word in words_of(row, 3):
                for each in forms_of(row, word).rows:
                    self.assertTrue(any(each))
                    self.assertEqual(gcd(*each), 1)
                    self.assertEqual(len(each), row.gap_count)

    def test_errors(self):
        for thing in NO_SEQUENCES + ([0] * 801,):
            self.refused(BadWord, {"index": 0, "what": "word"}, forms_of, ROW, thing)
        for thing in NO_WHOLES + (-1, 2):
            self.refused(NoPair, {"pair": thing}, forms_of, ROW, [0, 0, thing])
            self.refused(NoPair, {"pair": thing}, forms_of, ROW, (thing,))

    def test_not_coming(self):
        self.refused(NotComing, {"index": 1}, forms_of, ROW, [0, 0])
        self.refused(NotComing, {"index": 4}, forms_of, ROW, [0, 1, 0, 1, 0])
        self.refused(NotComing, {"index": 0}, forms_of, Row([1, 1], [0, 0]), [0])
        self.refused(NotComing, {"index": 0}, forms_of, Row([1, 1], [0, 0]), [0] * 800)
        chance = Random(104)
        for _ in range(60):
            row = some_row(chance)
            word = chance.choices(row.pairs, k=5)
            index = first_not_coming(row, word)
            if index is not None:
                self.refused(NotComing, {"index": index}, forms_of, row, word)

    def test_lists_and_tuples(self):
        word = [0, 1]
        forms = forms_of(ROW, word)
        self.assertEqual(forms, forms_of(ROW, (0, 1)))
        word.append(0)
        self.is_same(forms.word, (0, 1))

    def test_long_word(self):
        row = Row([1] * 40, [-speed for speed in range(40)])
        word = [pair for length in range(39, 0, -1) for pair in range(length)]
        self.assertEqual(len(word), 780)
        forms = forms_of(row, word)
        self.assertTrue(forms.is_over)
        self.assertEqual(forms.speeds, row.speeds[::-1])


class EqualityTest(Case):
    def test_equality(self):
        forms = forms_of(ROW, [0, 1])
        self.assertTrue(forms == longer_forms(ROW, forms_of(ROW, [0]), 1))
        for other in (
            forms_of(ROW, [0]),
            forms_of(ROW, [1, 0]),
            forms_of(ROW.quicker(2), [0, 1]),
            forms_of(ROW.hurried(1), [0, 1]),
            (0, 1),
            None,
        ):
            self.assertFalse(forms == other)
            self.assertTrue(forms != other)
        self.assertIs(forms.__class__, Forms)

    def test_each_attribute_counts(self):
        forms = forms_of(ROW, [0, 1])
        for name in ("word", "moments", "speeds", "gaps", "rows"):
            twin = copy(forms)
            self.assertTrue(forms == twin)
            setattr(twin, name, getattr(forms, name)[1:])
            self.assertFalse(forms == twin, name)


class LongerFormsTest(Case):
    def test_against_forms_of(self):
        chance = Random(105)
        for _ in range(60):
            row = some_row(chance, most=5, weights=3)
            word = ()
            forms = forms_of(row, word)
            while len(word) < 7 and not forms.is_over:
                for pair in row.pairs:
                    before = contents(forms)
                    if pair in forms.coming:
                        self.is_same(contents(longer_forms(row, forms, pair)), contents(forms_of(row, word + (pair,))))
                    else:
                        self.refused(NotComing, {"index": len(word)}, longer_forms, row, forms, pair)
                    self.is_same(contents(forms), before)
                pair = chance.choice(forms.coming)
                word += (pair,)
                forms = longer_forms(row, forms, pair)
                self.assertEqual(forms, forms_of(row, word))

    def test_errors(self):
        forms = forms_of(ROW, [0])
        for thing in NO_WHOLES + (-1, 2):
            self.refused(NoPair, {"pair": thing}, longer_forms, ROW, forms, thing)
        self.refused(NotComing, {"index": 1}, longer_forms, ROW, forms, 0)
        self.refused(NotComing, {"index": 4}, longer_forms, ROW, forms_of(ROW, [0, 1, 0, 1]), 1)


class ValueOfTest(Case):
    def test_values(self):
        self.is_same(value_of(((1, 2), (-1, 3)), (4, 3)), (1, 1))
        self.is_same(value_of([(1, 2), -3], [(2, 4), (-1, 9)]), (7, 12))
        self.is_same(value_of((0, 0), (5, 5)), (0, 1))
        self.is_same(value_of((), ()), (0, 1))
        self.is_same(value_of([10**40], [10**40]), (10**80, 1))

    def test_rows_are_forms(self):
        forms = forms_of(ROW, [0, 1])
        self.is_same(value_of(forms.rows[0], [1, 2]), (1, 1))

    def test_values_are_moments(self):
        chance = Random(106)
        for _ in range(60):
            row = some_row(chance)
            gaps = some_gaps(chance, row, 99)
            clashes, border, world = whole_run(row, gaps)
            word = [pair for _, pair, _ in clashes]
            forms = forms_of(row, word)
            self.assertEqual([Fraction(*value_of(form, gaps)) for form in forms.moments], [each[0] for each in clashes])
            self.assertEqual([Fraction(*value_of(form, gaps)) for form in forms.gaps], world.gaps())
            self.assertEqual(fractions(forms.speeds), world.speeds)


if __name__ == "__main__":
    unittest.main()
