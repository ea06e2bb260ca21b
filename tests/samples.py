"""Rows and gaps for tests, drawn by chance from a number."""

from fractions import Fraction
from random import Random

from oracle import fact_is_true, whole_run

from untoldgaps.rows import Row
from untoldgaps.strict import Strict

# Rows that have not two gaps.
OTHER_WIDTHS = (Row([1, 1], [1, 0]), Row([1], [-1], True), Row([1] * 4, [0] * 4), Row([1] * 3, [2, 1, 0], True))
UNITS = {1: [(1,)], 2: [(1, 0), (0, 1)], 3: [(1, 0, 0), (0, 1, 0), (0, 0, 1)]}


def some_row(chance, wall=None, most=5, weights=9, size=4, parts=3):
    """A row of few balls with small speeds."""
    if wall is None:
        wall = chance.random() < 0.5
    count = chance.randint(1 if wall else 2, most)
    speeds = [(chance.randint(-size, size), chance.randint(1, parts)) for _ in range(count)]
    return Row([chance.randint(1, weights) for _ in range(count)], speeds, wall)


def some_gaps(chance, row, size=9):
    """Gaps for a row; small ones, so that levels and borders come up."""
    return [(chance.randint(1, size), chance.randint(1, 2)) for _ in row.pairs]


def some_word(chance, row, length):
    return [chance.choice(row.pairs) for _ in range(length)]


def row_of_many(last, more=()):
    """Like balls behind a wall whose run has 812 clashes less the speed of the last ball (0 to 28).

    The balls with the speeds -1 to -28 make 28 clashes with the wall and 2 in each of 378 couples;
    the last one clashes once with each of them that is quicker than it.
    """
    speeds = [-speed for speed in range(1, 29)] + [last] + list(more)
    return Row([1] * len(speeds), speeds, True)


def gaps_of_many(row, more=()):
    """Gaps for these rows at which no border comes."""
    count = row.gap_count - len(more)
    return [(7 * k * k + 3 * k + 101, 97 + k) for k in range(count)] + list(more)


def narrow_row(chance, gaps=None, weights=9, size=4, parts=2):
    """A row of one to three gaps."""
    if gaps is None:
        gaps = chance.choice((1, 2, 2, 3, 3, 3))
    wall = chance.random() < 0.5
    count = gaps if wall else gaps + 1
    speeds = [(chance.randint(-size, size), chance.randint(1, parts)) for _ in range(count)]
    return Row([chance.randint(1, weights) for _ in range(count)], speeds, wall)


def narrow_rows(number, count, **more):
    """So many narrow rows, of few weights and of many."""
    chance = Random(number)
    for _ in range(count):
        yield narrow_row(chance, weights=chance.choice((1, 3, 9)), **more)


def two_gap_rows(number, count):
    chance = Random(number)
    for _ in range(count):
        wall = chance.random() < 0.5
        balls = 2 if wall else 3
        speeds = [(chance.randint(-6, 6), chance.randint(1, 3)) for _ in range(balls)]
        yield Row([chance.randint(1, 9) for _ in range(balls)], speeds, wall)


def some_systems(number, count, most=8):
    """Systems of few small rows, so that zeros, equal rows, unit rows and rows on a common line come up."""
    chance = Random(number)
    for _ in range(count):
        size = chance.randint(1, 3)
        reach = chance.choice((1, 2, 9))
        low = chance.choice((-reach, -1))
        rows = [[chance.randint(low, reach) for _ in range(size)] for _ in range(chance.randint(0, most))]
        yield Strict(size, rows)


def some_claim(chance, row, depth=4):
    """A claim about a row; joined ones down to a depth."""
    kinds = ["meets", "first", "count", "times", "speed", "ahead"]
    kind = chance.choice(kinds + ["not", "both", "either"] * 2 if depth else kinds)
    pair = chance.choice(row.pairs)
    least, most = chance.randint(0, 4), chance.choice((None, 0, 1, 2, 3, 4))
    low, high = [chance.choice((None, chance.randint(-4, 4), (chance.randint(-9, 9), 3))) for _ in range(2)]
    inner = [some_claim(chance, row, depth - 1) if depth else None for _ in range(2)]
    return (kind,) + {
        "meets": (pair,),
        "first": (pair,),
        "count": (least, most),
        "times": (pair, least, most),
        "speed": (chance.randrange(len(row)), low, high),
        "ahead": (pair, chance.choice(row.pairs)),
        "not": (inner[0],),
        "both": tuple(inner),
        "either": tuple(inner),
    }[kind]


def stick_row(chance, most=5, least=2, weights=9, size=4, parts=2):
    """A row without a wall."""
    count = chance.randint(least, most)
    speeds = [(chance.randint(-size, size), chance.randint(1, parts)) for _ in range(count)]
    return Row([chance.randint(1, weights) for _ in range(count)], speeds)


def stick_rows(number, count, **more):
    """So many rows without a wall, of few weights and of many; small numbers bring joinings at one moment."""
    chance = Random(number)
    for _ in range(count):
        small = chance.random() < 0.5
        yield stick_row(chance, weights=chance.choice((1, 2, 9)), size=2 if small else 6, parts=1 if small else 3, **more)


def _near(chance, quotient):
    """A ratio of 0 or more that may well be the quotient, or one close to it."""
    shift = chance.choice((0, 0, (1, 3), (-1, 3), 1, 2))
    told = quotient + Fraction(*shift) if isinstance(shift, tuple) else quotient + shift
    told = max(told, Fraction(0))
    return (told.numerator, told.denominator)


def some_fact(chance, row, clashes=()):
    """A fact that may well hold for a run with these clashes (moment, pair, speeds), or for some run of the row."""
    word = [pair for _, pair, _ in clashes]
    kinds = ["count", "word", "silent", "between", "exact"] + (["gaps"] if row.gap_count > 1 else [])
    kind = chance.choice(kinds)
    if kind == "count":
        return (kind, max(0, len(word) + chance.choice((0, 0, 0, 1, -1))))
    if kind == "word":
        beginning = word[:chance.randint(0, len(word))]
        return (kind, beginning + [chance.choice(row.pairs)] if chance.random() < 0.3 else beginning)
    if kind == "silent":
        return (kind, chance.choice(row.pairs))
    if kind == "gaps":
        one, other = chance.sample(row.pairs, 2)
        quotient = Fraction(chance.randint(0, 4), chance.randint(1, 3))
    else:
        one = chance.randint(1, max(1, len(word) - 1))
        other = one + chance.randint(1, 2)
        quotient = clashes[other - 1][0] / clashes[one - 1][0] if other <= len(word) else Fraction(3, 2)
    near = [_near(chance, quotient) for _ in range(2)]
    if kind == "exact":
        return (kind, one, other, near[0] if near[0][0] else (1, 2))
    low, high = sorted(near, key=lambda each: Fraction(*each))
    if low == high or chance.random() < 0.3:
        return (kind, one, other, low, None)
    return (kind, one, other, low, high)


def heard_cases(number, count, most=3, true=False, **more):
    """So many narrow rows, most of many clashes, with facts, and the clashes of a run that most facts fit.

    Of true facts the run fits all.
    """
    chance = Random(number)
    made = 0
    while made < count:
        row = narrow_row(chance, weights=chance.choice((1, 3, 9)), **more)
        if chance.random() < 0.8:
            row = row.with_speeds(sorted(row.speeds, key=lambda speed: -Fraction(*speed)))
        gaps = some_gaps(chance, row, 5)
        clashes, border, _ = whole_run(row, gaps)
        if border is None:
            made += 1
            facts = [some_fact(chance, row, clashes) for _ in range(chance.randint(0, most))]
            if true:
                facts = [fact for fact in facts if fact_is_true(row, gaps, clashes, fact)]
            yield row, facts, clashes
