"""Ranks: whole numbers that stand in the order of ratios, by which ratios are sorted."""


def scale_of(told):
    """Returns a scale for the ranks of ratios in lowest terms.

    Two unlike ratios differ by at least 1 divided by the square of the greatest bottom, so times
    this square they differ by at least 1, and still do when they are cut down to whole numbers.
    """
    return max([bottom for _, bottom in told], default=1) ** 2


def rank_of(ratio, scale):
    """Returns the rank of a ratio: equal for equal ratios, greater for greater ones."""
    return ratio[0] * scale // ratio[1]


def ascending(told):
    """Returns ratios in lowest terms as a list in ascending order."""
    scale = scale_of(told)
    return sorted(told, key=lambda ratio: rank_of(ratio, scale))


def _ranks_of(ratios, scale):
    """Returns the ranks of a row of ratios."""
    return tuple([rank_of(ratio, scale) for ratio in ratios])


def rows_ascending(rows):
    """Returns rows of ratios in lowest terms as a list in ascending order, compared place by place."""
    scale = scale_of([ratio for ratios in rows for ratio in ratios])
    return sorted(rows, key=lambda told: _ranks_of(told, scale))
