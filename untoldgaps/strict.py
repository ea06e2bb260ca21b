"""Strict rows: systems of rows that are all above 0, gaps that keep them, and why there are none."""

from untoldgaps.cones import cone_of, cut_cone, facet_shares, is_unit, middle_of, unit_rows, value_at
from untoldgaps.errors import BadGaps, BadStrict, NoInner
from untoldgaps.ratios import is_ratio, is_whole, lowest_row, without_common
from untoldgaps.rows import told_gaps

_MOST_SIZE = 3
_MOST_ROWS = 400


def _check_row(size, index, numbers):
    """Returns a row in lowest terms, or raises BadStrict."""
    if not isinstance(numbers, (list, tuple)):
        raise BadStrict(index, "row")
    if len(numbers) != size:
        raise BadStrict(index, "length")
    if not all([is_ratio(number) for number in numbers]):
        raise BadStrict(index, "number")
    return lowest_row(numbers)


class Strict:
    """Rows over one to three gaps; gaps above 0 keep them if each row times the gaps is above 0."""

    def __init__(self, size, rows):
        if not is_whole(size) or not 1 <= size <= _MOST_SIZE:
            raise BadStrict(0, "size")
        if not isinstance(rows, (list, tuple)) or len(rows) > _MOST_ROWS:
            raise BadStrict(0, "rows")
        self.size = size
        self.rows = tuple([_check_row(size, index, numbers) for index, numbers in enumerate(rows)])

    def __eq__(self, other):
        return isinstance(other, Strict) and self.size == other.size and self.rows == other.rows

    def with_row(self, numbers):
        """Returns a system with one more row at the end."""
        return Strict(self.size, self.rows + (numbers,))

    def holds_at(self, gaps):
        """Tells whether gaps keep all rows."""
        if not isinstance(gaps, (list, tuple)) or len(gaps) != self.size:
            raise BadGaps("length")
        told = lowest_row(told_gaps(gaps))
        return all([value_at(numbers, told) > 0 for numbers in self.rows])


class Inner:
    """Whole gaps that keep strict rows."""

    def __init__(self, gaps):
        self.gaps = gaps

    def __eq__(self, other):
        return isinstance(other, Inner) and self.gaps == other.gaps


class Empty:
    """Weights of rows and gaps with a sum of zeros, which show that no gaps keep the rows."""

    def __init__(self, weights):
        self.weights = weights

    def __eq__(self, other):
        return isinstance(other, Empty) and self.weights == other.weights


def _weights_from(size, rows, shares, spared):
    """Returns shares of facets as weights of rows and gaps, or None if only the row at spared is such a facet."""
    weights = [(0, 1)] * (len(rows) + size)
    for facet, share in shares:
        places = [index for index, numbers in enumerate(rows) if numbers == facet and index != spared]
        if is_unit(facet):
            places = [len(rows) + facet.index(1)]
        if not places:
            return None
        weights[places[0]] = share
    return weights


def inner_or_empty(size, rows):
    """Returns Inner or Empty for any number of rows in lowest terms."""
    corners = unit_rows(size)
    for index, numbers in enumerate(rows):
        left = cut_cone(corners, numbers)
        if not left:
            # The row is 0 or less wherever the earlier ones are kept: they add up to minus this row.
            shares = facet_shares(corners, tuple([-number for number in numbers]))
            weights = _weights_from(size, rows, shares, index)
            weights[index] = (1, 1)
            return Empty(lowest_row(weights))
        corners = left
    return Inner(middle_of(corners))


def find_inner(strict):
    """Returns Inner with gaps that keep the rows, or Empty with weights that show that there are none."""
    return inner_or_empty(strict.size, strict.rows)


def needless_rows(strict):
    """Returns (index, weights) for each row that follows from the other rows."""
    corners = cone_of(strict.size, strict.rows)
    if not corners:
        raise NoInner()
    found = []
    for index, numbers in enumerate(strict.rows):
        shares = facet_shares(corners, numbers)
        weights = _weights_from(strict.size, strict.rows, shares, index)
        if weights is not None:
            found.append((index, tuple(weights)))
    return tuple(found)


def _are_wholes(things, count, least):
    """Tells whether anything is a tuple of so many whole numbers from least on, without a common divisor."""
    if not isinstance(things, tuple) or len(things) != count:
        return False
    if not all([is_whole(thing) and thing >= least for thing in things]):
        return False
    return any([thing > 0 for thing in things]) and without_common(things) == things


def _inner_fault(strict, gaps):
    """Returns what is wrong with gaps that shall keep the rows."""
    if not _are_wholes(gaps, strict.size, 1):
        return "gaps"
    if not all([value_at(numbers, gaps) > 0 for numbers in strict.rows]):
        return "row"
    return None


def _empty_fault(strict, weights):
    """Returns what is wrong with weights that shall show that no gaps keep the rows."""
    vectors = strict.rows + unit_rows(strict.size)
    if not _are_wholes(weights, len(vectors), 0):
        return "weights"
    sums = [value_at(numbers, weights) for numbers in zip(*vectors)]
    return "sum" if any([total != 0 for total in sums]) else None


def strict_fault(strict, result):
    """Returns None if a result is a right answer of find_inner, else the first word that applies."""
    if isinstance(result, Inner):
        return _inner_fault(strict, result.gaps)
    if isinstance(result, Empty):
        return _empty_fault(strict, result.weights)
    return "kind"
