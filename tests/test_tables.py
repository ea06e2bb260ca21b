"""[2.6], [2.7] Tables."""

import unittest
from random import Random

from helping import NO_RATIOS, NO_SEQUENCES, NO_WHOLES, Case, as_told
from oracle import clash
from samples import some_row, some_word

from untoldgaps.clashing import after_word
from untoldgaps.errors import BadTable, BadWord, NoPair
from untoldgaps.rows import Row
from untoldgaps.tables import Table, is_rest_word, rest_table, same_tables, table_of, tells_apart

NO_LISTS = NO_SEQUENCES


def units(count):
    return tuple([tuple([(1 if k == j else 0, 1) for j in range(count)]) for k in range(count)])


def random_table(chance, count):
    return Table([[(chance.randint(-5, 5), chance.randint(1, 4)) for _ in range(count)] for _ in range(count)])


def plain_table(row, word):
    """The table of a word, column by column from the rules."""
    columns = []
    for ball in range(len(row)):
        speeds = [1 if other == ball else 0 for other in range(len(row))]
        for pair in word:
            speeds = clash(row.weights, speeds, pair)
        columns.append([as_told(speed) if speed.__class__ is not int else (speed, 1) for speed in speeds])
    return tuple(zip(*columns))


class MakingTest(Case):
    def bad(self, what, thing):
        self.refused(BadTable, {"what": what}, Table, thing)

    def test_attributes(self):
        lines = [[1, (2, 4)], ((-6, 3), 0)]
        table = Table(lines)
        self.is_same(table.rows, (((1, 1), (1, 2)), ((-2, 1), (0, 1))))
        self.is_same(len(table), 2)
        self.is_same(lines, [[1, (2, 4)], ((-6, 3), 0)])
        lines[0][0] = 9
        lines.append(7)
        self.is_same(table.rows, (((1, 1), (1, 2)), ((-2, 1), (0, 1))))

    def test_one_line_and_forty(self):
        self.is_same(Table([[(3, 6)]]).rows, (((1, 2),),))
        self.is_same(len(Table(((5,),))), 1)
        self.is_same(Table(units(40)).rows, units(40))
        self.is_same(len(Table([[0] * 40] * 40)), 40)

    def test_rows(self):
        for thing in NO_LISTS + ([], (), [[0] * 41] * 41):
            self.bad("rows", thing)

    def test_length(self):
        for thing in NO_LISTS + ([], [1], [1, 2, 3]):
            self.bad("length", [thing, [0, 0]])
            self.bad("length", [[0, 0], thing])
        self.bad("length", [[]])
        self.bad("length", [[0, 0]])
        self.bad("length", [7])

    def test_ratio(self):
        for thing in NO_RATIOS:
            self.bad("ratio", [[thing]])
            self.bad("ratio", [[0, thing], [0, 0]])
            self.bad("ratio", ((0, 0), (0, thing)))

    def test_line_by_line(self):
        self.bad("ratio", [[0, None], [0]])
        self.bad("length", [[0], [0, None]])
        self.bad("length", [[0, 0], [None]])
        self.bad("length", [[None, 0, 0], [0, 0]])

    def test_equality(self):
        table = Table([[1, (2, 4)], [0, 1]])
        self.assertTrue(table == Table((((3, 3), (1, 2)), (0, 1))))
        for other in (Table([[1, (1, 2)], [0, 2]]), Table([[1]]), table.rows, None):
            self.assertFalse(table == other)
            self.assertTrue(table != other)


class ProductTest(Case):
    def test_first_one_then_other(self):
        one = Table([[1, 2], [3, 4]])
        other = Table([[0, 1], [1, 0]])
        self.is_same((one * other).rows, Table([[3, 4], [1, 2]]).rows)
        self.is_same((other * one).rows, Table([[2, 1], [4, 3]]).rows)

    def test_speeds_of_products(self):
        chance = Random(61)
        for _ in range(40):
            count = chance.randint(1, 5)
            one, other, third = [random_table(chance, count) for _ in range(3)]
            speeds = [(chance.randint(-5, 5), chance.randint(1, 4)) for _ in range(count)]
            self.assertEqual((one * other).of_speeds(speeds), other.of_speeds(one.of_speeds(speeds)))
            self.assertEqual((one * other) * third, one * (other * third))
            self.assertEqual(one * Table(units(count)), one)
            self.assertEqual(Table(units(count)) * one, one)
            for line in (one * other).rows:
                self.are_told(line)

    def test_great_tables(self):
        row = Row([1, 2, 3, 4] * 10, [0] * 40)
        one, other = list(range(39)), list(range(38, -1, -1))
        self.assertEqual(table_of(row, one) * table_of(row, other), table_of(row, one + other))
        self.assertEqual(table_of(row, one) * table_of(row, one[::-1]), rest_table(row))

    def test_unlike_lengths(self):
        for one, other in ((1, 2), (2, 1), (40, 39)):
            with self.assertRaises(BadTable) as caught:
                Table(units(one)) * Table(units(other))
            self.assertEqual(vars(caught.exception), {"what": "length"})

    def test_products_change_nothing(self):
        one, other = Table([[1, 2], [3, 4]]), Table([[0, 1], [1, 0]])
        product = one
        product *= other
        self.assertEqual(one, Table([[1, 2], [3, 4]]))
        self.assertEqual(other, Table([[0, 1], [1, 0]]))
        self.assertEqual(product, one * other)


class SpeedsTest(Case):
    def test_of_speeds(self):
        table = Table([[1, (1, 2)], [0, -3]])
        self.is_same(table.of_speeds([1, (2, 3)]), ((4, 3), (-2, 1)))
        self.is_same(table.of_speeds(((4, 2), 0)), ((2, 1), (0, 1)))
        self.is_same(Table([[(1, 3)]]).of_speeds([(6, 4)]), ((1, 2),))

    def test_refused(self):
        table = Table([[1, 0], [0, 1]])
        for thing in NO_LISTS + ([], [1], [1, 2, 3], [None]):
            self.refused(BadTable, {"what": "length"}, table.of_speeds, thing)
        for thing in NO_RATIOS:
            self.refused(BadTable, {"what": "ratio"}, table.of_speeds, [thing, 0])
            self.refused(BadTable, {"what": "ratio"}, table.of_speeds, (0, thing))


class TableOfTest(Case):
    def test_rest_table(self):
        for count, wall in ((1, True), (2, False), (5, True), (40, False)):
            row = Row([3] * count, [1] * count, wall)
            self.is_same(rest_table(row).rows, units(count))
            self.assertEqual(table_of(row, []), rest_table(row))

    def test_one_clash(self):
        row = Row((2, 1), (5, 7), True)
        self.is_same(table_of(row, [0]).rows, (((1, 3), (2, 3)), ((4, 3), (-1, 3))))
        self.is_same(table_of(row, (-1,)).rows, (((-1, 1), (0, 1)), ((0, 1), (1, 1))))

    def test_against_speeds(self):
        chance = Random(62)
        for _ in range(60):
            row = some_row(chance)
            one, other = [some_word(chance, row, chance.randint(0, 6)) for _ in range(2)]
            table = table_of(row, one)
            self.assertEqual(table.rows, plain_table(row, one))
            self.assertEqual(table.of_speeds(row.speeds), after_word(row, one).speeds)
            self.assertEqual(table_of(row.with_speeds([0] * len(row)), one), table)
            self.assertEqual(table * table_of(row, other), table_of(row, one + other))
            for line in table.rows:
                self.are_told(line)

    def test_long_word(self):
        row = Row((2, 1, 5), (1, 0, 2))
        word = [0, 1] * 400
        self.assertEqual(table_of(row, word).of_speeds(row.speeds), after_word(row, word).speeds)
        self.assertEqual(table_of(row, word) * table_of(row, word[::-1]), rest_table(row))

    def test_rest_words(self):
        row = Row((2, 1, 3), (1, 0, 2))
        self.is_same(is_rest_word(row, []), True)
        self.is_same(is_rest_word(row, [0, 0]), True)
        self.is_same(is_rest_word(row, [0]), False)
        self.is_same(is_rest_word(row, [0, 1] * 4), True)
        self.is_same(is_rest_word(row, [0, 1] * 3), False)
        self.is_same(is_rest_word(Row((1, 1, 1), (0, 0, 0)), [0, 1] * 3), True)
        # With speeds of 0 nothing is seen of the word, yet it changes other speeds.
        self.is_same(is_rest_word(Row((1, 1), (0, 0), True), [-1]), False)

    def test_same_tables(self):
        row = Row((1, 1, 1), (0, 0, 0))
        self.is_same(same_tables(row, [0, 1, 0], (1, 0, 1)), True)
        self.is_same(same_tables(row, [0], [1]), False)
        self.is_same(same_tables(Row((2, 1, 1), (0, 0, 0)), [0, 1, 0], [1, 0, 1]), False)
        self.is_same(same_tables(row, [], [1, 1]), True)

    def test_tells_apart(self):
        row = Row((1, 1, 1, 1), (0, 0, 0, 0))
        self.is_same(tells_apart(row, [0], [1]), 0)
        self.is_same(tells_apart(row, [2], []), 2)
        self.is_same(tells_apart(row, [1], [1, 2]), 1)
        self.is_same(tells_apart(row, [1], [2, 1]), 2)
        self.assertIsNone(tells_apart(row, [0, 2], (2, 0)))
        self.is_same(tells_apart(Row((1,), (0,), True), [-1], []), 0)

    def test_tells_apart_against_speeds(self):
        chance = Random(63)
        for _ in range(60):
            row = some_row(chance, weights=3)
            one, other = [some_word(chance, row, chance.randint(0, 4)) for _ in range(2)]
            found = None
            for ball in reversed(range(len(row))):
                lone = row.with_speeds([1 if k == ball else 0 for k in range(len(row))])
                if after_word(lone, one) != after_word(lone, other):
                    found = ball
            self.is_same(tells_apart(row, one, other), found)
            self.is_same(same_tables(row, one, other), found is None)

    def test_errors(self):
        row = Row((1, 1), (0, 0))
        for call in (table_of, is_rest_word):
            for thing in NO_LISTS + ([0] * 801,):
                self.refused(BadWord, {"index": 0, "what": "word"}, call, row, thing)
            for thing in NO_WHOLES + (-1, 1):
                self.refused(NoPair, {"pair": thing}, call, row, [0, thing])
        for call in (same_tables, tells_apart):
            for thing in NO_LISTS + ([0] * 801,):
                self.refused(BadWord, {"index": 0, "what": "word"}, call, row, thing, [7])
                self.refused(BadWord, {"index": 0, "what": "word"}, call, row, [0], thing)
            for thing in NO_WHOLES + (-1, 1):
                self.refused(NoPair, {"pair": thing}, call, row, [0, thing], None)
                self.refused(NoPair, {"pair": thing}, call, row, [0], [thing])


if __name__ == "__main__":
    unittest.main()
