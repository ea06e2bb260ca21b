"""Verdicts: whether a claim holds for all gaps, for none, or for some."""

from untoldgaps.claims import check_claim, claim_holds
from untoldgaps.rows import check_narrow
from untoldgaps.wedges import all_wedges


class Sure:
    """A claim holds for all gaps."""

    def __eq__(self, other):
        return isinstance(other, Sure)


class Never:
    """A claim holds for no gaps."""

    def __eq__(self, other):
        return isinstance(other, Never)


class Mixed:
    """A claim holds for the gaps yes and does not hold for the gaps no."""

    def __init__(self, yes, no):
        self.yes = yes
        self.no = no

    def __eq__(self, other):
        return isinstance(other, Mixed) and self.yes == other.yes and self.no == other.no


def verdict_of(yes, no):
    """Returns the verdict on a claim from all gaps tried: a list with which it holds, and one with which not."""
    if not no:
        return Sure()
    if not yes:
        return Never()
    return Mixed(yes[0], no[0])


def holds_in(claim, wedge):
    """Tells whether a checked claim holds for all gaps in a wedge, and so for any."""
    return claim_holds(claim, wedge.word, wedge.speeds)


def decide_claim(row, claim, *, most=400):
    """Decides a claim for all gaps that lie in a wedge."""
    check_narrow(row)
    told = check_claim(row, claim)
    yes, no = [], []
    for wedge in all_wedges(row, most=most):
        side = yes if holds_in(told, wedge) else no
        side.append(wedge.gaps)
    return verdict_of(yes, no)


def wedges_with(row, claim, *, most=400):
    """Returns the indices of the wedges in which a claim holds, ascending."""
    check_narrow(row)
    told = check_claim(row, claim)
    wedges = all_wedges(row, most=most)
    return tuple([index for index, wedge in enumerate(wedges) if holds_in(told, wedge)])


def claim_follows(row, one, other, *, most=400):
    """Returns None if the other claim holds wherever the first one does, else gaps with the first alone."""
    check_narrow(row)
    given = check_claim(row, one)
    asked = check_claim(row, other)
    for wedge in all_wedges(row, most=most):
        if holds_in(given, wedge) and not holds_in(asked, wedge):
            return wedge.gaps
    return None


def clash_ranges(row, *, most=400):
    """Returns (pair, least, greatest) with the numbers of its clashes over all gaps, for each pair."""
    words = [wedge.word for wedge in all_wedges(row, most=most)]
    ranges = []
    for pair in row.pairs:
        counts = [word.count(pair) for word in words]
        ranges.append((pair, min(counts), max(counts)))
    return tuple(ranges)


def sure_firsts(row, *, most=400):
    """Returns the couples of pairs of which the first one surely clashes, and ahead of the other."""
    wedges = all_wedges(row, most=most)
    couples = [(one, other) for one in row.pairs for other in row.pairs]
    return tuple([
        couple for couple in couples if all([holds_in(("ahead",) + couple, wedge) for wedge in wedges])
    ])
