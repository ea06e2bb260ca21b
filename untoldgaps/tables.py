"""Tables: what a word does to all speeds at once."""

from untoldgaps.blends import blend_of, clash_pair, joined, ratios_in
from untoldgaps.clashing import check_word
from untoldgaps.errors import BadTable
from untoldgaps.ratios import is_ratio, ratio_of
from untoldgaps.rows import MOST_BALLS


def _check_line(line, count):
    """Returns so many ratios as a tuple of ratios in lowest terms, or raises BadTable."""
    if not isinstance(line, (list, tuple)) or len(line) != count:
        raise BadTable("length")
    for number in line:
        if not is_ratio(number):
            raise BadTable("ratio")
    return tuple([ratio_of(number) for number in line])


class Table:
    """Lines of shares: entry j of line k is the share of ball j's old speed in ball k's new speed."""

    def __init__(self, rows):
        if not isinstance(rows, (list, tuple)) or not 1 <= len(rows) <= MOST_BALLS:
            raise BadTable("rows")
        self.rows = tuple([_check_line(line, len(rows)) for line in rows])

    def __len__(self):
        return len(self.rows)

    def __eq__(self, other):
        return isinstance(other, Table) and self.rows == other.rows

    def __mul__(self, other):
        if not isinstance(other, Table):
            return NotImplemented
        if len(self.rows) != len(other.rows):
            raise BadTable("length")
        rows = self.rows
        columns = [blend_of(column) for column in zip(*rows)]
        lines = [blend_of(line) for line in other.rows]
        return Table([[joined(line, column) for column in columns] for line in lines])

    def of_speeds(self, speeds):
        """Returns the new speeds that come of old ones."""
        told = blend_of(_check_line(speeds, len(self.rows)))
        return tuple([joined(blend_of(line), told) for line in self.rows])


def _table_behind(row, word):
    """Returns the table of a word that is checked already."""
    balls = range(len(row))
    blends = [tuple([1] + [1 if other == ball else 0 for other in balls]) for ball in balls]
    for pair in word:
        clash_pair(row.weights, blends, pair)
    return Table([ratios_in(blend) for blend in blends])


def rest_table(row):
    """Returns the table that lets all speeds stay."""
    return _table_behind(row, ())


def table_of(row, word):
    """Returns the table of a word of the row."""
    return _table_behind(row, check_word(row, word))


def is_rest_word(row, word):
    """Tells whether a word changes no speeds, whatever they are."""
    return table_of(row, word) == rest_table(row)


def same_tables(row, one, other):
    """Tells whether two words do the same for all speeds."""
    return table_of(row, one) == table_of(row, other)


def tells_apart(row, one, other):
    """Returns the least ball whose speed alone tells two words apart, or None."""
    first = table_of(row, one)
    second = table_of(row, other)
    for ball in range(len(row)):
        if [line[ball] for line in first.rows] != [line[ball] for line in second.rows]:
            return ball
    return None
