"""[1.8] Kin."""

import unittest
from random import Random

from helping import Case

from untoldgaps.errors import BadRow, NoHurry
from untoldgaps.likeness import Kin, are_kin, kin_of, lead_along, least_row
from untoldgaps.ratios import plus, times
from untoldgaps.rows import Row


def contents(row):
    return (row.weights, row.speeds, row.wall)


def some_row(chance, wall):
    count = chance.randint(1 if wall else 2, 5)
    weights = [chance.randint(1, 4) for _ in range(count)]
    speeds = [(chance.randint(-4, 4), chance.randint(1, 3)) for _ in range(count)]
    return Row(weights, speeds, wall)


class LeastRowTest(Case):
    def test_without_a_wall(self):
        told = least_row(Row([2, 4, 6], [(1, 2), 1, (-1, 3)]))
        self.is_same(contents(told), ((1, 2, 3), ((0, 1), (3, 1), (-5, 1)), False))

    def test_with_a_wall(self):
        told = least_row(Row([6, 9], [(-1, 2), (5, 3)], True))
        self.is_same(contents(told), ((2, 3), ((-3, 1), (10, 1)), True))

    def test_equal_speeds(self):
        self.is_same(contents(least_row(Row([3, 3], [7, 7]))), ((1, 1), ((0, 1), (0, 1)), False))
        self.is_same(contents(least_row(Row([3, 3], [7, 7], True))), ((1, 1), ((1, 1), (1, 1)), True))
        self.is_same(contents(least_row(Row([5], [0], True))), ((1,), ((0, 1),), True))

    def test_least_row_is_its_own_least_row(self):
        chance = Random(21)
        for wall in (False, True):
            for _ in range(30):
                least = least_row(some_row(chance, wall))
                self.assertEqual(least_row(least), least)


class KinTest(Case):
    def test_example(self):
        one = Row([2, 4], [1, 0])
        kin = kin_of(one, Row([1, 2], [5, 2]))
        self.is_same(
            [kin.factor, kin.pace, kin.more, least_row(one).speeds],
            [(1, 2), (3, 1), (2, 1), ((0, 1), (-1, 1))],
        )

    def test_no_kin(self):
        row = Row([2, 4], [1, 0])
        for other in (
            Row([2, 4], [1, 0], True),
            Row([2, 3], [1, 0]),
            Row([4, 2], [1, 0]),
            Row([2, 4], [0, 1]),
            Row([2, 4], [0, 0]),
            Row([2, 4, 4], [1, 0, 0]),
        ):
            self.assertIs(are_kin(row, other), False)
            self.assertIs(are_kin(other, row), False)
            self.assertIsNone(kin_of(row, other))
        # A wall tells speeds from standing still: neither more speed nor turned speeds are kin.
        with_wall = Row([1, 1], [1, 2], True)
        self.assertIs(are_kin(with_wall, Row([1, 1], [2, 3], True)), False)
        self.assertIs(are_kin(with_wall, with_wall.turned()), False)
        self.assertIs(are_kin(Row([1, 1], [0, 1]), Row([1, 1], [0, -1])), False)

    def test_kin_with_a_wall(self):
        kin = kin_of(Row([3, 6], [0, (1, 2)], True), Row([2, 4], [0, 2], True))
        self.is_same((kin.factor, kin.pace, kin.more), ((2, 3), (4, 1), (0, 1)))

    def test_settled_values(self):
        kin = kin_of(Row([1, 1], [3, 3]), Row([2, 2], [-1, -1]))
        self.is_same((kin.factor, kin.pace, kin.more), ((2, 1), (1, 1), (-4, 1)))
        kin = kin_of(Row([2, 4], [0, 0], True), Row([1, 2], [0, 0], True))
        self.is_same((kin.factor, kin.pace, kin.more), ((1, 2), (1, 1), (0, 1)))
        kin = kin_of(Row([2, 4], [5, 5], True), Row([2, 4], [1, 1], True))
        self.is_same((kin.factor, kin.pace, kin.more), ((1, 1), (1, 5), (0, 1)))

    def test_kin_of_itself(self):
        row = Row([2, 3], [(1, 2), 7])
        kin = kin_of(row, row)
        self.is_same((kin.factor, kin.pace, kin.more), ((1, 1), (1, 1), (0, 1)))

    def test_random_kin(self):
        chance = Random(22)
        for wall in (False, True):
            for _ in range(60):
                row = some_row(chance, wall)
                other = row.heavier(2).quicker((chance.randint(1, 7), chance.randint(1, 7)))
                if not wall:
                    other = other.hurried((chance.randint(-7, 7), 3))
                kin = kin_of(row, other)
                self.are_told((kin.factor, kin.pace, kin.more))
                self.assertEqual(kin.factor, (2, 1))
                self.assertGreater(kin.pace[0], 0)
                speeds = [plus(times(speed, kin.pace), kin.more) for speed in row.speeds]
                self.assertEqual(tuple(speeds), other.speeds)
                self.assertEqual(lead_along(kin, row), other)
                self.assertIs(are_kin(row, other), True)
                self.assertEqual(least_row(row), least_row(other))
                self.assertEqual(lead_along(kin_of(other, row), other), row)

    def test_what_is_passed_stays(self):
        factor = (2, 4)
        kin = Kin(factor, (3, 3), None)
        self.assertIs(kin.factor, factor)
        self.is_same((kin.factor, kin.pace, kin.more), ((2, 4), (3, 3), None))

    def test_equality(self):
        kin = Kin((1, 2), (3, 1), (2, 1))
        self.assertTrue(kin == Kin((1, 2), (3, 1), (2, 1)))
        for other in (
            Kin((1, 3), (3, 1), (2, 1)),
            Kin((1, 2), (2, 1), (2, 1)),
            Kin((1, 2), (3, 1), (0, 1)),
            ((1, 2), (3, 1), (2, 1)),
            None,
        ):
            self.assertFalse(kin == other)
            self.assertTrue(kin != other)


class LeadAlongTest(Case):
    def test_leads(self):
        led = lead_along(Kin((1, 2), (3, 1), (2, 1)), Row([2, 4, 6], [1, 0, (1, 3)]))
        self.is_same(contents(led), ((1, 2, 3), ((5, 1), (2, 1), (3, 1)), False))
        led = lead_along(Kin((3, 1), (1, 2), (0, 1)), Row([2, 1], [1, 0], True))
        self.is_same(contents(led), ((6, 3), ((1, 2), (0, 1)), True))

    def test_weights_refused_first(self):
        kin = Kin((1, 2), (1, 1), (2, 1))
        for wall in (False, True):
            row = Row([2, 3], [0, 0], wall)
            self.refused(BadRow, {"index": 1, "what": "weight"}, lead_along, kin, row)

    def test_wall(self):
        self.refused(NoHurry, {}, lead_along, Kin((1, 1), (1, 1), (2, 1)), Row([2], [0], True))
        self.refused(NoHurry, {}, lead_along, Kin((1, 1), (2, 1), (-1, 5)), Row([2, 1], [0, 0], True))


if __name__ == "__main__":
    unittest.main()
