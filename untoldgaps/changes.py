"""Changes: other weights and speeds for single balls."""

from untoldgaps.errors import BadChange
from untoldgaps.ratios import is_ratio, is_whole, ratio_of
from untoldgaps.rows import MOST_WEIGHT, Row

_KINDS = ("weight", "speed")


def check_change(row, index, change):
    """Returns a change as a tuple, a speed as a ratio in lowest terms, or raises BadChange with the index."""
    if not isinstance(change, (list, tuple)) or len(change) != 3 or change[0] not in _KINDS:
        raise BadChange(index, "change")
    kind, ball, worth = change
    if not is_whole(ball) or not 0 <= ball < len(row):
        raise BadChange(index, "ball")
    if kind == "weight":
        if not is_whole(worth) or not 1 <= worth <= MOST_WEIGHT:
            raise BadChange(index, "weight")
        return (kind, ball, worth)
    if not is_ratio(worth):
        raise BadChange(index, "speed")
    return (kind, ball, ratio_of(worth))


def changed_row(row, changes):
    """Returns the row behind checked changes, one after another."""
    weights = list(row.weights)
    speeds = list(row.speeds)
    for kind, ball, worth in changes:
        if kind == "weight":
            weights[ball] = worth
        else:
            speeds[ball] = worth
    return Row(weights, speeds, row.wall)


def apply_changes(row, changes):
    """Returns the row behind changes, one after another, or raises BadChange."""
    if not isinstance(changes, (list, tuple)):
        raise BadChange(0, "sequence")
    return changed_row(row, [check_change(row, index, change) for index, change in enumerate(changes)])
