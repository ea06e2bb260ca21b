"""Rows and gaps for tests, drawn by chance from a number."""

from untoldgaps.rows import Row


def some_row(chance, wall=None, most=5, weights=9, size=4, parts=3):
    """A row of few balls with small speeds."""
    if wall is None:
        wall = chance.random() < 0.5
    count = chance.randint(1 if wall else 2, most)
    speeds = [(chance.randint(-size, size), chance.randint(1, parts)) for _ in range(count)]
    return Row([chance.randint(1, weights) for _ in range(count)], speeds, wall)


def some_gaps(chance, row, size=9):
    """Gaps for a row; small ones, so that levels and borders come up."""
    return [(chance.randint(1, size), chance.randint(1, 2)) for _ in row.pairs]


def some_word(chance, row, length):
    return [chance.choice(row.pairs) for _ in range(length)]


def row_of_many(last, more=()):
    """Like balls behind a wall whose run has 812 clashes less the speed of the last ball (0 to 28).

    The balls with the speeds -1 to -28 make 28 clashes with the wall and 2 in each of 378 couples;
    the last one clashes once with each of them that is quicker than it.
    """
    speeds = [-speed for speed in range(1, 29)] + [last] + list(more)
    return Row([1] * len(speeds), speeds, True)


def gaps_of_many(row, more=()):
    """Gaps for these rows at which no border comes."""
    count = row.gap_count - len(more)
    return [(7 * k * k + 3 * k + 101, 97 + k) for k in range(count)] + list(more)
