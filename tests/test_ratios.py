"""[1.1], [1.2], [1.3] Ratios."""

import unittest
from fractions import Fraction
from random import Random

from helping import NO_RATIOS, NO_WHOLES, Case, as_told

from untoldgaps.errors import BadRatio
from untoldgaps.ratios import (
    compare,
    is_ratio,
    is_whole,
    lowest_row,
    lowest_terms,
    minus,
    over,
    plus,
    ratio_of,
    times,
)

LONG = 10**60 + 7
RATIOS = (
    0,
    1,
    -1,
    7,
    (0, 5),
    (3, 1),
    (6, 4),
    (-6, 4),
    (1, 3),
    (-2, 7),
    LONG,
    -LONG,
    (LONG, 10**45),
    (-6 * LONG, 4 * LONG),
    (2, 3**80),
)


def value(ratio):
    return Fraction(*ratio) if isinstance(ratio, tuple) else Fraction(ratio)


class RatiosTest(Case):
    def test_is_whole(self):
        for thing in (0, 1, -1, 10**500):
            self.assertIs(is_whole(thing), True)
        for thing in NO_WHOLES:
            self.assertIs(is_whole(thing), False, thing)

    def test_is_ratio(self):
        for thing in RATIOS:
            self.assertIs(is_ratio(thing), True, thing)
        for thing in NO_RATIOS:
            self.assertIs(is_ratio(thing), False, thing)

    def test_ratio_of(self):
        for thing in RATIOS:
            told = ratio_of(thing)
            self.is_told(told)
            self.assertEqual(told, as_told(value(thing)))
        self.is_same(ratio_of(0), (0, 1))
        self.is_same(ratio_of((0, 9)), (0, 1))
        self.is_same(ratio_of((-4, 6)), (-2, 3))
        for thing in NO_RATIOS:
            self.refused(BadRatio, {}, ratio_of, thing)

    def test_lowest_terms(self):
        self.is_same(lowest_terms(6, -4), (-3, 2))
        self.is_same(lowest_terms(-6, -4), (3, 2))
        self.is_same(lowest_terms(-6, 4), (-3, 2))
        self.is_same(lowest_terms(0, -7), (0, 1))
        self.is_same(lowest_terms(5, 1), (5, 1))
        self.is_same(lowest_terms(6 * LONG, -3 * LONG), (-2, 1))

    def test_four_operations(self):
        for one in RATIOS:
            for other in RATIOS:
                a, b = value(one), value(other)
                cases = [(plus, a + b), (minus, a - b), (times, a * b)]
                if b != 0:
                    cases.append((over, a / b))
                for operation, result in cases:
                    told = operation(one, other)
                    self.is_told(told)
                    self.assertEqual(told, as_told(result), (operation, one, other))

    def test_compare(self):
        for one in RATIOS:
            for other in RATIOS:
                a, b = value(one), value(other)
                self.is_same(compare(one, other), (a > b) - (a < b))
        self.is_same(compare((10**40, 10**40 + 1), (10**40 + 1, 10**40 + 2)), -1)

    def test_wrong_things_in_each_place(self):
        for operation in (plus, minus, times, over, compare):
            for thing in NO_RATIOS:
                self.refused(BadRatio, {}, operation, thing, 1)
                self.refused(BadRatio, {}, operation, (1, 2), thing)
                self.refused(BadRatio, {}, operation, thing, thing)

    def test_division_by_nothing(self):
        for one in (0, 1, (-1, 2)):
            for other in (0, (0, 1), (0, 5)):
                self.refused(BadRatio, {}, over, one, other)

    def test_random_operations(self):
        chance = Random(11)
        for _ in range(300):
            a, b = [Fraction(chance.randint(-50, 50), chance.randint(1, 50)) for _ in range(2)]
            one, other = as_told(a), as_told(b)
            self.assertEqual(plus(one, other), as_told(a + b))
            self.assertEqual(minus(one, other), as_told(a - b))
            self.assertEqual(times(one, other), as_told(a * b))
            if b:
                self.assertEqual(over(one, other), as_told(a / b))


class LowestRowTest(Case):
    def test_rows(self):
        self.is_same(lowest_row([(1, 2), -1, 0]), (1, -2, 0))
        self.is_same(lowest_row(((4, 6), (-10, 4))), (4, -15))
        self.is_same(lowest_row([6, -9, 12]), (2, -3, 4))
        self.is_same(lowest_row([-4]), (-1,))
        self.is_same(lowest_row([0, (-7, 3), 0]), (0, -1, 0))
        self.is_same(lowest_row([3, 1]), (3, 1))
        self.is_same(lowest_row([(2, LONG), (4, LONG)]), (1, 2))

    def test_zeros_and_nothing(self):
        self.is_same(lowest_row([]), ())
        self.is_same(lowest_row(()), ())
        self.is_same(lowest_row([0]), (0,))
        self.is_same(lowest_row([0, (0, 4), 0]), (0, 0, 0))

    def test_one_ratio_above_nothing(self):
        chance = Random(12)
        for _ in range(100):
            numbers = [Fraction(chance.randint(-9, 9), chance.randint(1, 9)) for _ in range(4)]
            told = lowest_row([as_told(number) for number in numbers])
            factors = {Fraction(whole) / number for whole, number in zip(told, numbers) if number}
            self.assertLessEqual(len(factors), 1)
            self.assertTrue(all(factor > 0 for factor in factors))
            self.assertEqual([whole == 0 for whole in told], [number == 0 for number in numbers])

    def test_wrong_entries(self):
        for thing in NO_RATIOS:
            self.refused(BadRatio, {}, lowest_row, [thing])
            self.refused(BadRatio, {}, lowest_row, [0, thing])
            self.refused(BadRatio, {}, lowest_row, (thing, 1, 2))

    def test_what_is_passed_stays(self):
        numbers = [(2, 4), 6]
        lowest_row(numbers)
        self.is_same(numbers, [(2, 4), 6])


if __name__ == "__main__":
    unittest.main()
