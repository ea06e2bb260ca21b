"""Wedges: for each word the gaps, above 0, whose run has this word without a border and without a level."""

from untoldgaps.cones import cut_cone, middle_of, unit_rows
from untoldgaps.corners import tight_facets
from untoldgaps.courses import Course
from untoldgaps.errors import Long, TooMany
from untoldgaps.forms import form_course, forms_of, strict_row
from untoldgaps.rows import check_gaps, check_narrow
from untoldgaps.runs import MOST_CLASHES, Border, run_of
from untoldgaps.strict import inner_or_empty


class Wedge:
    """The gaps of one word: the rows and corners that bound them, gaps inside, and the end speeds."""

    def __init__(self, word, rows, corners, gaps, speeds):
        self.word = word
        self.rows = rows
        self.corners = corners
        self.gaps = gaps
        self.speeds = speeds

    def __eq__(self, other):
        return (
            isinstance(other, Wedge)
            and self.word == other.word
            and self.rows == other.rows
            and self.corners == other.corners
            and self.gaps == other.gaps
            and self.speeds == other.speeds
        )


class Level:
    """A moment at which two pairs that share no ball clash."""

    def __init__(self, moment, pairs):
        self.moment = moment
        self.pairs = pairs

    def __eq__(self, other):
        return isinstance(other, Level) and self.moment == other.moment and self.pairs == other.pairs


class Branch:
    """All runs that begin with a word: where the row stands behind it, and the corners of their gaps."""

    def __init__(self, word, course, corners):
        self.word = word
        self.course = course
        self.corners = corners
        self.coming = course.pairs_coming()

    def corners_with(self, pair):
        """Returns the corners of the gaps for which a pair clashes next, () if there are none."""
        corners = self.corners
        ahead = self.course.nearing(pair)
        for other in self.coming:
            if other != pair and corners:
                corners = cut_cone(corners, strict_row(ahead, self.course.nearing(other)))
        return corners

    def finished(self):
        """Returns the wedge of the word, behind which no pair comes."""
        corners = tuple(sorted(self.corners))
        return Wedge(self.word, tight_facets(self.corners), corners, middle_of(corners), self.course.speeds_now())


def _longer_branches(row, branch):
    """Returns the branches with one more clash, by descending pairs."""
    longer = []
    for pair in reversed(branch.coming):
        corners = branch.corners_with(pair)
        if corners:
            if len(branch.word) >= MOST_CLASHES:
                raise Long(MOST_CLASHES)
            course = Course(row, branch.course.blends)
            course.clash(pair)
            longer.append(Branch(branch.word + (pair,), course, corners))
    return longer


def all_wedges(row, *, most=400):
    """Returns the wedges of all words that have one, in ascending order of the words."""
    check_narrow(row)
    found = []
    # The branch taken next is the last one: so the words are met in ascending order.
    branches = [Branch((), form_course(row), unit_rows(row.gap_count))]
    while branches:
        branch = branches.pop()
        if branch.coming:
            branches.extend(_longer_branches(row, branch))
        elif len(found) >= most:
            raise TooMany(most)
        else:
            found.append(branch.finished())
    return tuple(found)


def _first_level(run):
    """Returns the first Level of a run, or None if all its clashes come at moments of their own."""
    for at, moment in enumerate(run.moments[1:]):
        if run.moments[at] == moment:
            return Level(moment, run.word[at:at + 2])
    return None


def wedge_of(row, gaps, *, most=400):
    """Returns the index of the wedge in which gaps lie, or the Border or else the Level that the run meets."""
    check_narrow(row)
    told = check_gaps(row, gaps)
    wedges = all_wedges(row, most=most)
    run = run_of(row, told)
    if isinstance(run, Border):
        return run
    level = _first_level(run)
    if level is not None:
        return level
    return [wedge.word for wedge in wedges].index(run.word)


def word_gaps(row, word):
    """Returns Inner with gaps whose run begins with a word, or Empty with weights of its rows and the gaps."""
    check_narrow(row)
    return inner_or_empty(row.gap_count, forms_of(row, word).rows)
