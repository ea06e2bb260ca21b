"""Mends: which changes make claims sure for all gaps."""

from untoldgaps.changes import changed_row, check_change
from untoldgaps.claims import check_claim
from untoldgaps.errors import BadChange, BadClaim, BadWish
from untoldgaps.ratios import is_whole
from untoldgaps.rows import check_narrow, check_unwalled
from untoldgaps.stickclaims import check_stick_claim, decide_sticking
from untoldgaps.verdicts import Sure, holds_in
from untoldgaps.wedges import all_wedges

_MOST_CHANGES = 5


class Mend:
    """A selection of changes that makes all claims sure, and the row behind it."""

    def __init__(self, selection, row):
        self.selection = selection
        self.row = row


def _check_pool(row, pool):
    """Returns a pool as a list of checked changes, or raises BadChange."""
    if not isinstance(pool, (list, tuple)) or not 1 <= len(pool) <= _MOST_CHANGES:
        raise BadChange(0, "pool")
    told = []
    for index, change in enumerate(pool):
        fresh = check_change(row, index, change)
        if fresh[:2] in [old[:2] for old in told]:
            raise BadChange(index, "double")
        told.append(fresh)
    return told


def _check_wishes(row, claims, sticking):
    """Returns claims as a list of checked claims, or raises BadWish."""
    if not isinstance(claims, (list, tuple)):
        raise BadWish(0, "sequence")
    told = []
    for index, claim in enumerate(claims):
        try:
            told.append(check_stick_claim(row, claim) if sticking else check_claim(row, claim))
        except BadClaim as fault:
            raise BadWish(index, fault.what) from fault
    return told


def _selections_of(count):
    """Returns all selections of so many changes, shorter ones first, then ascending."""
    selections = []
    for mask in range(1 << count):
        selections.append(tuple([index for index in range(count) if mask >> index & 1]))
    return sorted(selections, key=lambda selection: (len(selection), selection))


def _are_sure(row, claims, sticking, most):
    """Tells whether all checked claims are Sure for a row."""
    if not claims:
        return True
    if sticking:
        return all([isinstance(decide_sticking(row, claim), Sure) for claim in claims])
    wedges = all_wedges(row, most=most)
    return all([holds_in(claim, wedge) for claim in claims for wedge in wedges])


def _judged_mends(row, pool, claims, sticking, most):
    """Returns (mend, whether it is good) for all selections in their order, or raises what is wrong."""
    if sticking:
        check_unwalled(row)
    else:
        check_narrow(row)
    changes = _check_pool(row, pool)
    wishes = _check_wishes(row, claims, sticking)
    if "ahead" in [wish[0] for wish in wishes]:
        check_narrow(row)
    judged = []
    for selection in _selections_of(len(changes)):
        behind = changed_row(row, [changes[index] for index in selection])
        judged.append((Mend(selection, behind), _are_sure(behind, wishes, sticking, most)))
    return judged


def _good_ones(judged):
    """Returns the mends that are good."""
    return [mend for mend, is_good in judged if is_good]


def _is_least(selection, good):
    """Tells whether no other selection of the good mends lies within a selection."""
    others = [mend.selection for mend in good if mend.selection != selection]
    return not any([all([index in selection for index in other]) for other in others])


def _least_ones(judged):
    """Returns the good mends within which no other one lies."""
    good = _good_ones(judged)
    return [mend for mend in good if _is_least(mend.selection, good)]


def good_selections(row, pool, claims, *, sticking=False, most=400):
    """Returns all selections of a pool that make all claims sure, shorter ones first."""
    judged = _judged_mends(row, pool, claims, sticking, most)
    return tuple([mend.selection for mend in _good_ones(judged)])


def least_mends(row, pool, claims, *, sticking=False, most=400):
    """Returns the good selections within which no other one lies, as mends."""
    return tuple(_least_ones(_judged_mends(row, pool, claims, sticking, most)))


def spoilers(row, pool, claims, *, sticking=False, most=400):
    """Returns (selection, index) for each least mend and each change that spoils it."""
    judged = _judged_mends(row, pool, claims, sticking, most)
    good = [mend.selection for mend in _good_ones(judged)]
    couples = []
    for mend in _least_ones(judged):
        for index in range(len(pool)):
            if index not in mend.selection and tuple(sorted(mend.selection + (index,))) not in good:
                couples.append((mend.selection, index))
    return tuple(couples)


def _is_selection(selection, count):
    """Tells whether anything is an ascending tuple of indices below a number."""
    if not isinstance(selection, tuple):
        return False
    if not all([is_whole(index) and 0 <= index < count for index in selection]):
        return False
    return all([one < other for one, other in zip(selection, selection[1:])])


def _are_ordered(mends, count):
    """Tells whether the selections of mends are such, each one behind the one before it."""
    selections = [mend.selection for mend in mends]
    if not all([_is_selection(selection, count) for selection in selections]):
        return False
    ranks = [(len(selection), selection) for selection in selections]
    return all([one < other for one, other in zip(ranks, ranks[1:])])


def mends_fault(row, pool, claims, mends, *, sticking=False, most=400):
    """Returns None if these are the least mends, else the first word that applies."""
    judged = _judged_mends(row, pool, claims, sticking, most)
    if not _are_ordered(mends, len(pool)):
        return "order"
    good = _good_ones(judged)
    rows = {mend.selection: mend.row for mend in good}
    for mend in mends:
        if mend.selection not in rows or not rows[mend.selection] == mend.row:
            return "bad"
    if not all([_is_least(mend.selection, good) for mend in mends]):
        return "smaller"
    return "lacking" if len(mends) < len(_least_ones(judged)) else None
