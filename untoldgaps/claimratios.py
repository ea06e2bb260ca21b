"""Claims about rows with two gaps: the ratios of gaps at which they hold."""

from untoldgaps.claims import check_claim, claim_holds
from untoldgaps.stretches import all_stretches, check_two_gaps


def ratios_with(row, claim):
    """Returns (low, high) of the stretches of the ratio in which a claim holds, neighbours joined."""
    check_two_gaps(row)
    told = check_claim(row, claim)
    bounds = []
    for stretch in all_stretches(row):
        if claim_holds(told, stretch.word, stretch.speeds):
            low = stretch.low
            if bounds and bounds[-1][1] == low:
                low = bounds.pop()[0]
            bounds.append((low, stretch.high))
    return tuple(bounds)
