"""What several tests use: the check of errors, and things that are of no right kind."""

import unittest
from math import gcd

from untoldgaps.errors import GapError

NO_RATIOS = (
    True,
    False,
    None,
    "1",
    "",
    1.0,
    [1, 2],
    [1],
    (),
    (1,),
    (1, 2, 3),
    (1, 0),
    (1, -1),
    (0, 0),
    (True, 1),
    (1, True),
    (False, 2),
    (1, "2"),
    (None, 1),
    (1.0, 2),
    ((1, 2), 1),
    {"top": 1},
    b"1",
)
NO_WHOLES = (True, False, None, "1", 1.0, (1, 1), [1], (), b"1")
NO_SEQUENCES = (None, 7, True, "ab", b"ab", {}, {1: 2}, {1, 2})


class Case(unittest.TestCase):
    """A test case that asks which error comes, with which attributes."""

    def refused(self, kind, attributes, call, *args, **more):
        with self.assertRaises(GapError) as caught:
            call(*args, **more)
        error = caught.exception
        self.assertIs(error.__class__, kind)
        told = vars(error)
        self.assertEqual(told, attributes)
        for name, value in attributes.items():
            self.assertIs(told[name].__class__, value.__class__, name)

    def is_told(self, ratio):
        """Checks that a value is a ratio in lowest terms, written as a tuple."""
        self.assertIs(ratio.__class__, tuple)
        self.assertEqual([part.__class__ for part in ratio], [int, int])
        top, bottom = ratio
        self.assertGreaterEqual(bottom, 1)
        self.assertEqual(gcd(top, bottom), 1)

    def are_told(self, ratios):
        """Checks a tuple of such ratios."""
        self.assertIs(ratios.__class__, tuple)
        for ratio in ratios:
            self.is_told(ratio)

    def is_same(self, one, other):
        """Checks that two values are equal, with no boolean for a number and no list for a tuple."""
        self.assertEqual(repr(one), repr(other))


def as_told(fraction):
    """A Fraction as a ratio of the package."""
    return (fraction.numerator, fraction.denominator)
