"""[4.5], [4.6] Turns: how many clashes come with two gaps, for all speeds."""

import unittest
from fractions import Fraction
from itertools import product
from random import Random

from helping import NO_SEQUENCES, NO_WHOLES, Case, as_told
from oracle import whole_run
from samples import OTHER_WIDTHS, two_gap_rows

from untoldgaps.errors import BadWord, NoPair, TwoGaps
from untoldgaps.rows import Row, check_gaps
from untoldgaps.runs import run_of
from untoldgaps.stretches import all_stretches
from untoldgaps.turns import all_turn_words, made_run, most_turns, turn_ratios, turn_word


def rows_of(weights):
    """A row with two gaps for each choice of weights, without a wall and with one."""
    for told in product(weights, repeat=3):
        yield Row(told, [0] * 3)
    for told in product(weights, repeat=2):
        yield Row(told, [0] * 2, True)


def begun_with(row, first, z):
    """Speeds and gaps of a run that begins with a clash of first, where the other pair has z times its closing."""
    closings = [Fraction(2) if pair == first else 2 * z for pair in row.pairs]
    speed = Fraction(0)
    speeds = [] if row.wall else [speed]
    for closing in closings:
        speed -= closing
        speeds.append(speed)
    gaps = [1 if pair == first else 1 + max(z, 0) for pair in row.pairs]
    return row.with_speeds([as_told(each) for each in speeds]), [as_told(Fraction(gap)) for gap in gaps]


def words_in_turn(row, most):
    words = {()}
    for first, near in (row.pairs, row.pairs[::-1]):
        for count in range(1, most + 1):
            words.add(tuple([first if at % 2 == 0 else near for at in range(count)]))
    return words


class TurnRatiosTest(Case):
    def test_examples(self):
        self.is_same(turn_ratios(Row([2, 1, 3], [0, 0, 0]), 0), ((-4, 3), (-2, 3), (0, 1)))
        self.is_same(turn_ratios(Row([1, 1, 1], [5, 6, 7]), 1), ((-1, 1), (0, 1)))
        # The wall turns the speed u of ball 0, so that pair 0 comes with -u less the speed of ball 1.
        self.is_same(turn_ratios(Row([1, 1], [0, 0], True), -1), ((-2, 1), (-1, 1), (0, 1)))

    def test_against_runs(self):
        """A run has at least k + 2 clashes exactly if z is greater than the turn with index k."""
        for row in rows_of((1, 2, 5, 9)):
            for first in row.pairs:
                turns = turn_ratios(row, first)
                self.are_told(turns)
                told = [Fraction(*turn) for turn in turns]
                self.assertEqual(told, sorted(set(told)))
                near = Fraction(1, 10**6)
                tries = [z for turn in told for z in (turn - near, turn, turn + near)] + [told[0] - 9, told[-1] + 9]
                for z in tries:
                    clashes, border, _ = whole_run(*begun_with(row, first, z))
                    self.assertIsNone(border)
                    self.assertEqual(clashes[0][1], first)
                    self.assertEqual(len(clashes), 1 + len([turn for turn in told if z > turn]))

    def test_as_many_for_both_pairs(self):
        seen = set()
        for row in rows_of(range(1, 10)):
            counts = [len(turn_ratios(row, first)) for first in row.pairs]
            self.assertEqual(counts[0], counts[1])
            self.is_same(most_turns(row), counts[0] + 1)
            seen.add(counts[0])
        self.assertEqual((min(seen), max(seen)), (2, 9))

    def test_speeds_mean_nothing(self):
        for row in two_gap_rows(211, 30):
            still = row.quicker(0)
            self.is_same(most_turns(row), most_turns(still))
            self.is_same(all_turn_words(row), all_turn_words(still))
            for first in row.pairs:
                self.is_same(turn_ratios(row, first), turn_ratios(still, first))


class MostTurnsTest(Case):
    def test_never_more(self):
        chance = Random(212)
        for row in two_gap_rows(213, 300):
            gaps = [chance.randint(1, 99), chance.randint(1, 99)]
            clashes, _, _ = whole_run(row, gaps)
            self.assertLessEqual(len(clashes), most_turns(row))

    def test_some(self):
        self.is_same(most_turns(Row([1, 1, 1], [0, 0, 0])), 3)
        self.is_same(most_turns(Row([1, 1], [0, 0], True)), 4)
        self.is_same(most_turns(Row([9, 1, 9], [0, 0, 0])), 7)
        self.is_same(most_turns(Row([1, 9], [0, 0], True)), 10)
        self.is_same(most_turns(Row([9, 1], [0, 0], True)), 3)


class TurnWordTest(Case):
    def test_against_runs(self):
        for row in two_gap_rows(214, 150):
            for at, first in enumerate(row.pairs):
                gaps = [1, 10**6] if at == 0 else [10**6, 1]
                run = run_of(row, gaps)
                begins = run.word[:1] == (first,)
                self.is_same(turn_word(row, first), run.word if begins else None)

    def test_some(self):
        row = Row([2, 1, 2], [1, 0, -1])
        self.is_same([turn_word(row, 0), turn_word(row, 1)], [(0, 1, 0, 1), (1, 0, 1, 0)])
        row = Row([2, 1, 2], [1, 0, 0])
        self.is_same([turn_word(row, 0), turn_word(row, 1)], [(0, 1, 0), None])
        self.is_same(turn_word(Row([2, 1], [0, 0], True), -1), None)

    def test_no_pair(self):
        row = Row([2, 1, 2], [1, 0, -1])
        for call in (turn_word, turn_ratios):
            for thing in NO_WHOLES + (-1, 2, 7):
                self.refused(NoPair, {"pair": thing}, call, row, thing)
            self.refused(NoPair, {"pair": 1}, call, Row([1, 1], [0, 0], True), 1)


class AllTurnWordsTest(Case):
    def test_words(self):
        self.is_same(
            all_turn_words(Row([1, 1, 1], [0, 0, 0])),
            ((), (0,), (0, 1), (0, 1, 0), (1,), (1, 0), (1, 0, 1)),
        )
        self.is_same(
            all_turn_words(Row([9, 1], [0, 0], True)),
            ((), (-1,), (-1, 0), (-1, 0, -1), (0,), (0, -1), (0, -1, 0)),
        )
        for row in rows_of((1, 3, 8)):
            self.is_same(all_turn_words(row), tuple(sorted(words_in_turn(row, most_turns(row)))))

    def test_words_of_runs_are_among_them(self):
        for row in two_gap_rows(215, 100):
            for stretch in all_stretches(row):
                self.assertIn(stretch.word, all_turn_words(row))


class MadeRunTest(Case):
    def test_each_word(self):
        for row in rows_of((1, 3, 9)):
            for word in all_turn_words(row):
                made = made_run(row, word)
                self.assertIs(made.__class__, tuple)
                speeds, gaps = made
                self.are_told(speeds)
                self.are_told(gaps)
                self.is_same(check_gaps(row, gaps), gaps)
                clashes, border, _ = whole_run(row.with_speeds(speeds), gaps)
                self.assertIsNone(border)
                self.assertEqual(tuple([pair for _, pair, _ in clashes]), word)
                self.assertEqual(run_of(row.with_speeds(speeds), gaps).word, word)

    def test_other_words(self):
        row = Row([1, 1, 1], [2, 1, 0])
        for word in ([0, 0], (1, 1), (0, 1, 0, 1), [1, 0, 1, 0], (0, 1, 1), (0, 0, 1), [0] * 800, (0, 1) * 400):
            self.assertIsNone(made_run(row, word))
        for row in rows_of((1, 4)):
            words = words_in_turn(row, most_turns(row))
            for length in range(5):
                for word in product(row.pairs, repeat=length):
                    self.assertEqual(made_run(row, list(word)) is not None, word in words)
            longer = max(words, key=len)
            self.assertIsNone(made_run(row, longer + longer[:2]))

    def test_lists(self):
        row = Row([2, 1, 2], [1, 0, -1])
        word = [0, 1]
        self.is_same(made_run(row, word), made_run(row, (0, 1)))
        self.is_same(word, [0, 1])

    def test_errors(self):
        row = Row([2, 1, 2], [1, 0, -1])
        for thing in NO_SEQUENCES + ([0] * 801,):
            self.refused(BadWord, {"index": 0, "what": "word"}, made_run, row, thing)
        for thing in NO_WHOLES + (-1, 2):
            self.refused(NoPair, {"pair": thing}, made_run, row, [0, 0, thing, 5])


class TwoGapsTest(Case):
    def test_two_gaps_first(self):
        for row in OTHER_WIDTHS:
            for first in row.pairs + (None, 99):
                self.refused(TwoGaps, {}, turn_ratios, row, first)
                self.refused(TwoGaps, {}, turn_word, row, first)
            self.refused(TwoGaps, {}, most_turns, row)
            self.refused(TwoGaps, {}, all_turn_words, row)
            for word in ((), None, [99]):
                self.refused(TwoGaps, {}, made_run, row, word)


if __name__ == "__main__":
    unittest.main()
