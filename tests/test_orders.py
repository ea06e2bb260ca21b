"""[2.8], [2.9] Repeated words and all tables."""

import unittest
from itertools import product
from random import Random

from helping import NO_SEQUENCES, NO_WHOLES, Case
from samples import some_row, some_word

from untoldgaps.errors import BadWord, NoPair, Wide
from untoldgaps.orders import all_tables, returns_after
from untoldgaps.rows import Row
from untoldgaps.tables import rest_table, table_of


def plain_returns(row, word, most):
    """The least number of times after which a word changes no speeds, found by repeating it."""
    table = rest_table(row)
    for many in range(1, most + 1):
        table = table * table_of(row, word)
        if table == rest_table(row):
            return many
    return None


def round_word(begin, length):
    """A word that lets so many neighbouring balls go about in one round."""
    return list(range(begin, begin + length - 1))


class ReturnsTest(Case):
    def test_narrow_rows(self):
        for weights, many in (
            ((1, 1, 1), 3),
            ((2, 1, 3), 4),
            ((5, 1, 9), 6),
            ((6, 1, 7), 6),
            ((2, 1, 2), None),
            ((3, 5, 8), None),
        ):
            self.is_same(returns_after(Row(weights, (0, 0, 0)), (0, 1)), many)
            self.is_same(returns_after(Row(weights, (7, (1, 2), -3)), [0, 1]), many)

    def test_one_and_two(self):
        row = Row((2, 1, 2, 5), (0, 0, 0, 0))
        self.is_same(returns_after(row, []), 1)
        self.is_same(returns_after(row, [0, 0]), 1)
        self.is_same(returns_after(row, [0]), 2)
        self.is_same(returns_after(row, [0, 2]), 2)
        self.is_same(returns_after(row, [0, 1]), None)
        self.is_same(returns_after(row, [0, 1, 2]), None)

    def test_wall(self):
        self.is_same(returns_after(Row((1, 1), (0, 0), True), [-1, 0]), 4)
        self.is_same(returns_after(Row((3, 1), (0, 0), True), [-1, 0]), 3)
        self.is_same(returns_after(Row((1, 3), (0, 0), True), [-1, 0]), 6)
        self.is_same(returns_after(Row((2, 1), (0, 0), True), [-1, 0]), None)
        self.is_same(returns_after(Row((5,), (0,), True), [-1]), 2)
        self.is_same(returns_after(Row((5,), (0,), True), []), 1)

    def test_against_repeating(self):
        chance = Random(71)
        for _ in range(150):
            row = some_row(chance, most=3, weights=3)
            word = some_word(chance, row, chance.randint(0, 5))
            self.is_same(returns_after(row, word), plain_returns(row, word, 12))

    def test_like_rows_against_repeating(self):
        chance = Random(72)
        for _ in range(80):
            count = chance.randint(2, 7)
            row = Row([4] * count, [0] * count, chance.random() < 0.5)
            word = some_word(chance, row, chance.randint(0, 12))
            self.is_same(returns_after(row, word), plain_returns(row, word, 100))

    def test_many_like_balls(self):
        row = Row([1] * 40, [0] * 40)
        self.is_same(returns_after(row, round_word(0, 40)), 40)
        self.is_same(returns_after(row, []), 1)
        word = round_word(0, 16) + round_word(16, 9) + round_word(25, 7) + round_word(32, 5)
        self.is_same(returns_after(row, word), 16 * 9 * 7 * 5)

    def test_greatest_answer(self):
        row = Row([2] * 40, [0] * 40, True)
        word = [-1] + round_word(0, 8) + round_word(8, 9) + round_word(17, 5)
        word += round_word(22, 7) + round_word(29, 11)
        self.is_same(returns_after(row, word), 55440)
        self.is_same(returns_after(row, [-1] + round_word(0, 40)), 80)
        # Two turned signs in one round make it come back as if there were none.
        self.is_same(returns_after(row, [-1, 0, -1]), 2)
        self.is_same(returns_after(row, [-1, 0]), 4)

    def test_wide(self):
        for row in (Row([1, 1, 1, 1, 2], [0] * 5), Row([1, 1, 1, 2], [0] * 4, True)):
            self.refused(Wide, {}, returns_after, row, [])
            self.refused(Wide, {}, returns_after, row, None)
            self.refused(Wide, {}, returns_after, row, [99])
        for row in (Row([1] * 5, [0] * 5), Row([1] * 4, [0] * 4, True), Row([1, 2, 3, 4], [0] * 4)):
            self.is_same(returns_after(row, [0]), 2)

    def test_errors(self):
        for row in (Row([1] * 5, [0] * 5), Row([1, 2], [0, 0])):
            for thing in NO_SEQUENCES + ([0] * 801,):
                self.refused(BadWord, {"index": 0, "what": "word"}, returns_after, row, thing)
            for thing in NO_WHOLES + (-1, 4):
                self.refused(NoPair, {"pair": thing}, returns_after, row, [0, thing])

    def test_long_word(self):
        row = Row([2, 1, 3], [0, 0, 0])
        self.is_same(returns_after(row, [0, 1] * 400), 1)
        self.is_same(returns_after(row, [0, 1] * 399), 4)


class AllTablesTest(Case):
    def test_example(self):
        self.is_same(
            all_tables(Row((1, 1, 1), (0, 0, 0))),
            ((), (0,), (1,), (0, 1), (1, 0), (0, 1, 0)),
        )

    def test_how_many(self):
        for weights, wall, many in (
            ((5, 3), False, 2),
            ((7,), True, 2),
            ((1, 1), True, 8),
            ((3, 1), True, 6),
            ((1, 3), True, 12),
            ((2, 1, 3), False, 8),
            ((6, 1, 7), False, 12),
            ((1, 1, 1, 1), False, 24),
            ((1, 1, 1), True, 48),
        ):
            told = all_tables(Row(weights, [3] * len(weights), wall))
            self.is_same(len(told), many)
            self.assertIs(told.__class__, tuple)

    def test_endlessly_many(self):
        for weights, wall in (((2, 1, 2), False), ((2, 1), True), ((1, 2, 1, 1), False), ((1, 1, 2), True)):
            self.assertIsNone(all_tables(Row(weights, [0] * len(weights), wall)))

    def test_least_words(self):
        """All words up to a length, fewest pairs first, against the words that are told."""
        for weights, wall, longest in (
            ((2, 1, 3), False, 5),
            ((1, 1), True, 5),
            ((6, 1, 7), False, 7),
            ((1, 1, 1, 1), False, 7),
            ((4, 5), False, 4),
        ):
            row = Row(weights, [0] * len(weights), wall)
            least = {}
            for length in range(longest + 1):
                for word in product(row.pairs, repeat=length):
                    least.setdefault(table_of(row, word).rows, word)
            self.is_same(all_tables(row), tuple(least.values()))

    def test_every_word_has_one_of_them(self):
        row = Row((1, 1, 1), (0, 0, 0), True)
        tables = [table_of(row, word) for word in all_tables(row)]
        chance = Random(73)
        for _ in range(30):
            self.assertEqual(tables.count(table_of(row, some_word(chance, row, 30))), 1)

    def test_wide(self):
        for row in (Row([1] * 5, [0] * 5), Row([1, 2, 1, 2], [0] * 4, True)):
            self.refused(Wide, {}, all_tables, row)


if __name__ == "__main__":
    unittest.main()
