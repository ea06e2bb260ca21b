"""What was heard of a run: the gaps that fit some facts, and what else is true for all of them."""

from untoldgaps.claims import check_claim, claim_holds
from untoldgaps.cones import cone_of, cut_cone, level_cone, middle_of, unit_rows
from untoldgaps.errors import BadMoments, NothingFits
from untoldgaps.facts import check_fact, check_facts, demands_of
from untoldgaps.forms import forms_of, value_of
from untoldgaps.ratios import compare, is_ratio, lowest_row, minus, over, ratio_of
from untoldgaps.rows import check_narrow
from untoldgaps.verdicts import verdict_of
from untoldgaps.wedges import all_wedges


def _rows_of(forms):
    """Returns forms as rows of whole numbers."""
    return [lowest_row(form) for form in forms]


class Tale:
    """A wedge as it is heard: its word, its end speeds, and its moments and first gaps as forms."""

    def __init__(self, row, wedge):
        self.row = row
        self.word = wedge.word
        self.speeds = wedge.speeds
        self.moments = forms_of(row, wedge.word).moments
        self.starts = unit_rows(row.gap_count)
        # Cut one by one, the corners stand around the cone; those of the wedge are sorted.
        self.corners = cone_of(row.gap_count, wedge.rows)

    def _demands_of(self, fact):
        """Returns what a fact demands of the gaps of the wedge, or None."""
        return demands_of(self.row, fact, self.word, self.moments, self.starts)

    def corners_keeping(self, corners, fact):
        """Returns the corners of the gaps inside a cone for which a fact holds, () if there are none."""
        demands = self._demands_of(fact)
        if demands is None:
            return ()
        above, level = demands
        for numbers in _rows_of(level):
            if corners:
                corners = level_cone(corners, numbers)
        for numbers in _rows_of(above):
            if corners:
                corners = cut_cone(corners, numbers)
        return corners

    def corners_breaking(self, corners, fact):
        """Returns the corners of gaps inside a cone for which a fact does not hold, () if there are none."""
        demands = self._demands_of(fact)
        if demands is None:
            return corners
        above, level = demands
        for numbers in _rows_of(above):
            # Inside a cone a row is somewhere below 0, or it is 0 everywhere, or it is above 0.
            left = cut_cone(corners, [-number for number in numbers]) or level_cone(corners, numbers)
            if left:
                return left
        for numbers in _rows_of(level):
            left = cut_cone(corners, numbers) or cut_cone(corners, [-number for number in numbers])
            if left:
                return left
        return ()

    def corners_fitting(self, facts):
        """Returns the corners of the gaps of the wedge for which all facts hold, () if there are none."""
        corners = self.corners
        for fact in facts:
            if corners:
                corners = self.corners_keeping(corners, fact)
        return corners


def _tales_of(row, most):
    """Returns the tales of all wedges of a row."""
    return [Tale(row, wedge) for wedge in all_wedges(row, most=most)]


def _fitting(tales, facts):
    """Returns (tale, corners) for all tales in which some gaps fit the facts."""
    told = [(tale, tale.corners_fitting(facts)) for tale in tales]
    return [(tale, corners) for tale, corners in told if corners]


def _some_fitting(tales, facts):
    """Returns (tale, corners) as _fitting does, or raises NothingFits if there are none."""
    fitting = _fitting(tales, facts)
    if not fitting:
        raise NothingFits()
    return fitting


def fitting_tales(row, facts, most):
    """Returns (tale, corners) for all wedges in which some gaps fit checked facts."""
    return _fitting(_tales_of(row, most), facts)


def fitting_words(row, facts, *, most=400):
    """Returns (word, gaps) for all wedges in which some gaps fit the facts, with such gaps."""
    check_narrow(row)
    told = check_facts(row, facts)
    return tuple([(tale.word, middle_of(corners)) for tale, corners in fitting_tales(row, told, most)])


def decide_heard(row, facts, claim, *, most=400):
    """Decides a claim for all gaps that fit the facts."""
    check_narrow(row)
    told = check_facts(row, facts)
    asked = check_claim(row, claim)
    yes, no = [], []
    for tale, corners in _some_fitting(_tales_of(row, most), told):
        side = yes if claim_holds(asked, tale.word, tale.speeds) else no
        side.append(middle_of(corners))
    return verdict_of(yes, no)


def decide_fact(row, facts, fact, *, most=400):
    """Decides a further fact for all gaps that fit the facts."""
    check_narrow(row)
    told = check_facts(row, facts)
    asked = check_fact(row, fact)
    yes, no = [], []
    for tale, corners in _some_fitting(_tales_of(row, most), told):
        kept = tale.corners_keeping(corners, asked)
        broken = tale.corners_breaking(corners, asked)
        if kept:
            yes.append(middle_of(kept))
        if broken:
            no.append(middle_of(broken))
    return verdict_of(yes, no)


def _follows(tales, facts, fact):
    """Tells whether a fact holds for all gaps that fit some facts."""
    return not any([tale.corners_breaking(corners, fact) for tale, corners in _fitting(tales, facts)])


def needless_facts(row, facts, *, most=400):
    """Returns the indices of the facts that follow from all the others, ascending."""
    check_narrow(row)
    told = check_facts(row, facts)
    tales = _tales_of(row, most)
    _some_fitting(tales, told)
    return tuple([at for at, fact in enumerate(told) if _follows(tales, told[:at] + told[at + 1:], fact)])


def _check_moments(moments):
    """Returns heard moments as ratios, or raises BadMoments."""
    if not isinstance(moments, (list, tuple)):
        raise BadMoments("moments")
    told = []
    for moment in moments:
        if not is_ratio(moment) or compare(moment, 0) <= 0:
            raise BadMoments("moment")
        if told and compare(moment, told[-1]) <= 0:
            raise BadMoments("order")
        told.append(ratio_of(moment))
    return told


def _gaps_heard(tale, moments):
    """Returns the gaps at which the clashes of a wedge come at just these moments, None if there are none.

    Where a pair clashes first, its gap is the only one in the moment that is still unknown. The moments
    rise, so gaps above 0 that lead to them lie in the wedge.
    """
    if len(tale.word) != len(moments):
        return None
    first = tale.row.pairs[0]
    gaps = [None] * tale.row.gap_count
    for pair, form, moment in zip(tale.word, tale.moments, moments):
        left = minus(moment, value_of(form, [(0, 1) if gap is None else gap for gap in gaps]))
        if gaps[pair - first] is None:
            gaps[pair - first] = over(left, form[pair - first])
        elif left != (0, 1):
            return None
    # The gaps of silent pairs are in no moment.
    told = tuple([(1, 1) if gap is None else gap for gap in gaps])
    return told if all([gap[0] > 0 for gap in told]) else None


def explain_moments(row, moments, *, most=400):
    """Returns (word, gaps) for all wedges with gaps whose run clashes at exactly these moments."""
    check_narrow(row)
    told = _check_moments(moments)
    heard = [(tale.word, _gaps_heard(tale, told)) for tale in _tales_of(row, most)]
    return tuple([(word, gaps) for word, gaps in heard if gaps is not None])
