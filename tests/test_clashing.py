"""[2.1], [2.2], [2.3] Clashes, words and who comes."""

import unittest
from random import Random

from helping import NO_SEQUENCES, NO_WHOLES, Case, as_told
from oracle import clash, closing, fractions
from samples import some_row, some_word

from untoldgaps.clashing import (
    MOST_WORD,
    after_clash,
    after_word,
    check_word,
    closing_speed,
    coming_pairs,
    first_not_coming,
)
from untoldgaps.errors import BadWord, NoPair
from untoldgaps.rows import Row


def told(speeds):
    return tuple([as_told(speed) for speed in speeds])


class ClashTest(Case):
    def test_example(self):
        row = Row((2, 1, 2), (1, 0, -1))
        self.is_same(after_clash(row, 0).speeds, ((1, 3), (4, 3), (-1, 1)))
        self.is_same(row.speeds, ((1, 1), (0, 1), (-1, 1)))

    def test_wall(self):
        row = Row((2, 1), ((1, 2), 3), True)
        self.is_same(after_clash(row, -1).speeds, ((-1, 2), (3, 1)))
        self.is_same(after_clash(row, 0).speeds, ((13, 6), (-1, 3)))
        self.assertIs(after_clash(row, 0).wall, True)
        self.is_same(after_clash(Row((3,), (0,), True), -1).speeds, ((0, 1),))

    def test_all_pairs(self):
        chance = Random(41)
        for _ in range(80):
            row = some_row(chance)
            for pair in row.pairs:
                new = after_clash(row, pair)
                self.are_told(new.speeds)
                self.assertEqual(new.speeds, told(clash(row.weights, fractions(row.speeds), pair)))
                self.is_same((new.weights, new.wall), (row.weights, row.wall))
                self.assertEqual(new.second_sum, row.second_sum)
                if pair != -1:
                    self.assertEqual(new.first_sum, row.first_sum)
                self.assertEqual(after_clash(new, pair), row)
                top, bottom = closing_speed(row, pair)
                self.assertEqual(closing_speed(new, pair), (-top, bottom))

    def test_no_pair(self):
        for row, wrong in (
            (Row((1, 1), (0, 0)), (-1, 1, 2)),
            (Row((1, 1), (0, 0), True), (-2, 1)),
            (Row((1,), (0,), True), (0, 1)),
            (Row((1, 1, 1), (0, 0, 0)), (-1, 2, 10**30)),
        ):
            for pair in wrong + NO_WHOLES:
                self.refused(NoPair, {"pair": pair}, after_clash, row, pair)
                self.refused(NoPair, {"pair": pair}, closing_speed, row, pair)

    def test_long_numbers(self):
        row = Row((2, 1), ((10**50, 7**40), (-1, 3**60)))
        self.assertEqual(after_clash(after_clash(row, 0), 0), row)
        self.assertEqual(after_clash(row, 0).speeds, told(clash(row.weights, fractions(row.speeds), 0)))


class WordTest(Case):
    def test_most_word(self):
        self.is_same(MOST_WORD, 800)

    def test_check_word(self):
        row = Row((1, 1), (0, 0), True)
        self.is_same(check_word(row, [0, -1, 0]), (0, -1, 0))
        self.is_same(check_word(row, (0, 0)), (0, 0))
        self.is_same(check_word(row, []), ())
        self.is_same(check_word(row, [0] * 800), (0,) * 800)
        for call in (check_word, after_word, first_not_coming):
            self.refused(BadWord, {"index": 0, "what": "word"}, call, row, [0] * 801)
            self.refused(BadWord, {"index": 0, "what": "word"}, call, row, [None] * 801)
            for thing in NO_SEQUENCES:
                self.refused(BadWord, {"index": 0, "what": "word"}, call, row, thing)
            for thing in NO_WHOLES + (-2, 1):
                self.refused(NoPair, {"pair": thing}, call, row, [thing])
                self.refused(NoPair, {"pair": thing}, call, row, (0, -1, thing, 7))

    def test_words_stay(self):
        row = Row((2, 1), (0, 1))
        word = [0, 0, 0]
        checked = check_word(row, word)
        after_word(row, word)
        first_not_coming(row, word)
        self.is_same(word, [0, 0, 0])
        word[0] = 9
        self.is_same(checked, (0, 0, 0))

    def test_after_word(self):
        chance = Random(42)
        for _ in range(60):
            row = some_row(chance)
            word = some_word(chance, row, chance.randint(0, 12))
            speeds = fractions(row.speeds)
            for pair in word:
                speeds = clash(row.weights, speeds, pair)
            new = after_word(row, word)
            self.assertEqual(new.speeds, told(speeds))
            self.are_told(new.speeds)
            self.assertEqual(new.second_sum, row.second_sum)
            self.assertEqual(after_word(new, word[::-1]), row)
            self.assertEqual(after_word(row, tuple(word)), new)

    def test_word_of_nothing(self):
        row = Row((2, 1, 5), ((1, 2), 0, -1), True)
        self.assertEqual(after_word(row, []), row)
        self.assertEqual(after_word(row, ()), row)

    def test_word_of_eight_hundred(self):
        row = Row((2, 1, 5), ((1, 2), 0, -1))
        word = [0, 1] * 400
        self.assertEqual(after_word(after_word(row, word), word[::-1]), row)
        self.assertEqual(after_word(row, word).second_sum, row.second_sum)
        self.assertEqual(after_word(row, [0] * 800), row)


class ComingTest(Case):
    def test_closing_speed(self):
        row = Row((2, 1, 1), ((1, 2), -1, -1), True)
        self.is_same([closing_speed(row, pair) for pair in row.pairs], [(-1, 2), (3, 2), (0, 1)])
        self.is_same(coming_pairs(row), (0,))

    def test_coming_pairs(self):
        self.is_same(coming_pairs(Row((1, 1, 1), (1, 0, -1))), (0, 1))
        self.is_same(coming_pairs(Row((1, 1, 1), (0, 0, 0))), ())
        self.is_same(coming_pairs(Row((1, 1), (-1, -1), True)), (-1,))
        self.is_same(coming_pairs(Row((1, 1), (0, 0), True)), ())
        self.is_same(coming_pairs(Row((1,), (-1,), True)), (-1,))
        self.is_same(coming_pairs(Row((1, 1), (-1, -2), True)), (-1, 0))

    def test_all_pairs(self):
        chance = Random(43)
        for _ in range(100):
            row = some_row(chance)
            speeds = fractions(row.speeds)
            for pair in row.pairs:
                self.assertEqual(closing_speed(row, pair), as_told(closing(speeds, pair)))
                self.is_told(closing_speed(row, pair))
            self.assertEqual(coming_pairs(row), tuple([pair for pair in row.pairs if closing(speeds, pair) > 0]))

    def test_first_not_coming(self):
        row = Row((2, 1, 2), (1, 0, -1))
        self.assertIsNone(first_not_coming(row, []))
        self.assertIsNone(first_not_coming(row, [0, 1, 0, 1]))
        self.is_same(first_not_coming(row, [0, 1, 0, 1, 0]), 4)
        self.is_same(first_not_coming(row, [0, 0]), 1)
        self.is_same(first_not_coming(Row((1, 1), (0, 0)), [0]), 0)
        self.is_same(first_not_coming(Row((1, 1), (0, -1), True), [0, -1]), None)
        self.is_same(first_not_coming(Row((1, 1), (0, -1), True), [-1]), 0)

    def test_first_not_coming_against_the_rules(self):
        chance = Random(44)
        for _ in range(100):
            row = some_row(chance)
            word = some_word(chance, row, 6)
            speeds = fractions(row.speeds)
            found = None
            for index, pair in enumerate(word):
                if found is None and closing(speeds, pair) <= 0:
                    found = index
                speeds = clash(row.weights, speeds, pair)
            self.is_same(first_not_coming(row, word), found)


if __name__ == "__main__":
    unittest.main()
