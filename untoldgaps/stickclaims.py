"""Claims about sticking runs, decided for all gaps."""

from untoldgaps.claims import check_part, claim_holds, claim_parts, is_speed_within
from untoldgaps.rows import check_unwalled
from untoldgaps.sticking import pooled_parting
from untoldgaps.stickorders import stick_orders
from untoldgaps.verdicts import Never, Sure, verdict_of

# What each kind of claim holds behind its word.
_PARTS = {
    "with": ("ball", "ball"),
    "apart": ("ball", "ball"),
    "mean": ("ball", "bound", "bound"),
    "ahead": ("pair", "pair"),
}


def check_stick_claim(row, claim):
    """Returns a claim about sticking runs with its ratios in lowest terms, or raises BadClaim."""
    check_unwalled(row)
    parts = claim_parts(dict(_PARTS), claim)
    return (claim[0],) + tuple([check_part(row, part, thing) for part, thing in zip(parts, claim[1:])])


def _holds_at_end(parting, claim):
    """Tells whether a claim about the lots of the end holds."""
    at = [first <= claim[1] <= last for first, last in parting.lots].index(True)
    if claim[0] == "mean":
        return is_speed_within(parting.means[at], claim[2], claim[3])
    first, last = parting.lots[at]
    return (first <= claim[2] <= last) == (claim[0] == "with")


def _decide_ahead(row, claim):
    """Decides a claim about the order in which pairs join."""
    yes, no = [], []
    for order in stick_orders(row):
        # An order is read as a word in which each pair stands once.
        side = yes if claim_holds(claim, order.pairs, ()) else no
        side.append(order.gaps)
    return verdict_of(yes, no)


def decide_sticking(row, claim):
    """Decides a claim about sticking runs for all gaps."""
    told = check_stick_claim(row, claim)
    if told[0] == "ahead":
        return _decide_ahead(row, told)
    return Sure() if _holds_at_end(pooled_parting(row), told) else Never()
