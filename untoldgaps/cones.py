"""Cones: all gaps of 0 or more at which some rows are 0 or more, told by their corners.

There are one, two or three gaps. All rows and corners are whole numbers without a common divisor.
The corners of three gaps stand one after another around the cone, always the same way round. A cone
may be flat: then it has fewer corners than gaps. Inside it lie the sums of all its corners, each
times some ratio above 0.
"""

from untoldgaps.ratios import lowest_terms, without_common


def unit_rows(size):
    """Returns the rows with one 1 and zeros else, which are the corners of all gaps."""
    return tuple([tuple([1 if place == at else 0 for place in range(size)]) for at in range(size)])


def value_at(numbers, gaps):
    """Returns the sum of whole numbers times others at their places."""
    return sum([number * gap for number, gap in zip(numbers, gaps)])


def _crossing(one, other, here, there):
    """Returns where a row is 0 between two corners at which it has these values, one above 0 and one below."""
    return without_common([abs(there) * gap + abs(here) * far for gap, far in zip(one, other)])


def _corners_kept(corners, values, most):
    """Returns the corners at which a row has these values of 0 or more, but not above most unless that is None.

    Where it is 0 between two corners there is a corner, too.
    """
    # With two corners both ways round lead over the same crossing, which stays one corner.
    kept = {}
    for at, corner in enumerate(corners):
        after = (at + 1) % len(corners)
        if values[at] >= 0 and (most is None or values[at] <= most):
            kept[corner] = True
        if values[at] * values[after] < 0:
            kept[_crossing(corner, corners[after], values[at], values[after])] = True
    return tuple(kept)


def cut_cone(corners, numbers):
    """Returns the corners of the part of a cone at which a row is 0 or more, () if it is nowhere above 0."""
    values = [value_at(numbers, corner) for corner in corners]
    if max(values) <= 0:
        return ()
    if min(values) >= 0:
        return corners
    return _corners_kept(corners, values, None)


def level_cone(corners, numbers):
    """Returns the corners of the part of a cone at which a row is 0, () if it is 0 nowhere inside the cone."""
    values = [value_at(numbers, corner) for corner in corners]
    if min(values) == 0 and max(values) == 0:
        return corners
    if min(values) >= 0 or max(values) <= 0:
        return ()
    return _corners_kept(corners, values, 0)


def cone_of(size, rows):
    """Returns the corners of the gaps that keep some rows, () if no gaps above 0 keep them strictly."""
    corners = unit_rows(size)
    for numbers in rows:
        corners = cut_cone(corners, numbers)
        if not corners:
            return ()
    return corners


def middle_of(corners):
    """Returns gaps inside a cone: the sum of its corners in lowest terms."""
    return without_common([sum(numbers) for numbers in zip(*corners)])


def facets_of(corners):
    """Returns the rows that a cone with inner gaps cannot do without, in the order of its sides."""
    size = len(corners[0])
    if size == 1:
        return ((1,),)
    if size == 2:
        (low, high), (far, top) = corners
        return (without_common([top, -far]), without_common([-high, low]))
    facets = []
    for at, (a, b, c) in enumerate(corners):
        d, e, f = corners[(at + 1) % len(corners)]
        facets.append(without_common([b * f - c * e, c * d - a * f, a * e - b * d]))
    return tuple(facets)


def is_unit(numbers):
    """Tells whether a row has one 1 and zeros else."""
    return 1 in numbers and numbers.count(0) == len(numbers) - 1


def fan_of(vectors):
    """Cuts the cone of vectors, around it in their order, into cones of as many vectors as there are gaps."""
    if len(vectors[0]) < 3:
        return [tuple(vectors)]
    return [(vectors[0], one, other) for one, other in zip(vectors[1:], vectors[2:])]


def determinant(vectors):
    """Returns the determinant of one, two or three vectors."""
    if len(vectors) == 1:
        return vectors[0][0]
    if len(vectors) == 2:
        return vectors[0][0] * vectors[1][1] - vectors[0][1] * vectors[1][0]
    (a, b, c), (d, e, f), (g, h, i) = vectors
    return a * (e * i - f * h) - b * (d * i - f * g) + c * (d * h - e * g)


def _shares_in(vectors, goal):
    """Returns the ratios by which vectors add up to a goal."""
    whole = determinant(vectors)
    shares = []
    for at in range(len(vectors)):
        swapped = vectors[:at] + (goal,) + vectors[at + 1:]
        shares.append(lowest_terms(determinant(swapped), whole))
    return shares


def facet_shares(corners, goal):
    """Returns facets of a cone with the ratios above 0 by which they add up to a row.

    The row is 0 or more at all corners: that is why there are such ratios, in some part of the fan.
    """
    for vectors in fan_of(facets_of(corners)):
        shares = _shares_in(vectors, goal)
        if all([share[0] >= 0 for share in shares]):
            return [(facet, share) for facet, share in zip(vectors, shares) if share[0] > 0]
    return []
