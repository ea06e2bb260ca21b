"""Pushes: how much the clash of a pair changes the closings of the pairs beside it, and speeds with given closings."""

from untoldgaps.ratios import lowest_terms, minus


def push_of(row, pair, near):
    """Returns the factor by which the closing of a pair is added to that of a pair beside it when it clashes."""
    if pair < 0:
        return (2, 1)
    left = row.weights[pair]
    right = row.weights[pair + 1]
    return lowest_terms(2 * (left if near > pair else right), left + right)


def speeds_closing(row, closings):
    """Returns speeds with which a row has these closings; ball 0 rests unless there is a wall."""
    speed = (0, 1)
    speeds = [] if row.wall else [speed]
    for closing in closings:
        speed = minus(speed, closing)
        speeds.append(speed)
    return tuple(speeds)
