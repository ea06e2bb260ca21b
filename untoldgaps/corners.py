"""Corners of strict rows, the rows that bound them, and the share of all gaps that they leave."""

from untoldgaps.cones import cone_of, determinant, facets_of, fan_of, is_unit
from untoldgaps.ratios import lowest_terms, plus


def tight_facets(corners):
    """Returns the facets of a cone that are no unit rows, ascending."""
    return tuple(sorted([facet for facet in facets_of(corners) if not is_unit(facet)]))


def find_corners(strict):
    """Returns the corners of strict rows, ascending, () if no gaps keep them."""
    return tuple(sorted(cone_of(strict.size, strict.rows)))


def tight_rows(strict):
    """Returns the rows that bound the gaps that keep all rows, ascending, each once."""
    corners = cone_of(strict.size, strict.rows)
    return tight_facets(corners) if corners else ()


def _share_within(vectors):
    """Returns the share of the cone of as many corners as there are gaps."""
    sums = 1
    for vector in vectors:
        sums = sums * sum(vector)
    return lowest_terms(abs(determinant(vectors)), sums)


def share_of(strict):
    """Returns the share of the gaps that keep strict rows among all gaps with the sum 1."""
    corners = cone_of(strict.size, strict.rows)
    share = (0, 1)
    if corners:
        for vectors in fan_of(corners):
            share = plus(share, _share_within(vectors))
    return share
