"""Forms: the moments and gaps along a word as sums of the unknown first gaps."""

from untoldgaps.clashing import check_pair, check_word
from untoldgaps.courses import Course, start_blends
from untoldgaps.errors import NotComing
from untoldgaps.ratios import lowest_terms, plus, times, without_common


def _first_starts(row):
    """Returns for each ball the form of its place at the begin: the sum of the gaps to the left of it."""
    return [[(1, 1) if pair < ball else (0, 1) for pair in row.pairs] for ball in range(len(row))]


def form_course(row):
    """Returns the course of a row at its begin, in which the gaps are forms."""
    return Course(row, start_blends(row, _first_starts(row)))


def _moment_form(nearing):
    """Returns the form of the moment at which a pair that comes has gap 0."""
    return tuple([lowest_terms(number, nearing[1]) for number in nearing[2:]])


def _gap_form(nearing, moment):
    """Returns the form of a gap at the moment of a form."""
    bottom = nearing[0]
    closing = nearing[1]
    return tuple([
        lowest_terms(number * part - closing * time, bottom * part)
        for number, (time, part) in zip(nearing[2:], moment)
    ])


def strict_row(ahead, behind):
    """Returns the row that is above 0 exactly if the first of two nearing pairs comes to gap 0 first."""
    numbers = [late * ahead[1] - soon * behind[1] for soon, late in zip(ahead[2:], behind[2:])]
    return without_common(numbers)


class Forms:
    """What follows of the first gaps along a word, whatever they are."""

    def __init__(self, word, moments, rows, course):
        self.word = tuple(word)
        self.moments = tuple(moments)
        self.rows = tuple(rows)
        self.blends = tuple(course.blends)
        self.speeds = tuple([lowest_terms(blend[1], blend[0]) for blend in self.blends])
        last = self.moments[-1] if self.moments else tuple([(0, 1) for _ in course.pairs])
        self.gaps = tuple([_gap_form(nearing, last) for nearing in course.nearings])
        self.coming = course.pairs_coming()
        self.arrivals = tuple([_moment_form(course.nearing(pair)) for pair in self.coming])

    def __eq__(self, other):
        return (
            isinstance(other, Forms)
            and self.word == other.word
            and self.moments == other.moments
            and self.speeds == other.speeds
            and self.gaps == other.gaps
            and self.rows == other.rows
        )

    @property
    def is_over(self):
        """Tells whether no pair comes behind the word."""
        return len(self.coming) == 0


class Draft:
    """Forms that still grow: the clashes so far and where the row stands behind them."""

    def __init__(self, course, word, moments, rows):
        self.course = course
        self.word = list(word)
        self.moments = list(moments)
        self.rows = {row: True for row in rows}

    def clash(self, pair):
        """Lets the next pair of the word clash."""
        course = self.course
        if not course.comes(pair):
            raise NotComing(len(self.word))
        nearing = course.nearing(pair)
        for other in course.pairs_coming():
            if other != pair:
                self.rows[strict_row(nearing, course.nearing(other))] = True
        self.word.append(pair)
        self.moments.append(_moment_form(nearing))
        course.clash(pair)

    def finished(self):
        """Returns the Forms of the word so far."""
        return Forms(self.word, self.moments, list(self.rows), self.course)


def forms_of(row, word):
    """Returns the Forms of a word of the row, or raises NotComing."""
    told = check_word(row, word)
    draft = Draft(form_course(row), (), (), ())
    for pair in told:
        draft.clash(pair)
    return draft.finished()


def longer_forms(row, forms, pair):
    """Returns the Forms of the word of other forms with one pair behind it."""
    told = check_pair(row, pair)
    draft = Draft(Course(row, forms.blends), forms.word, forms.moments, forms.rows)
    draft.clash(told)
    return draft.finished()


def value_of(form, gaps):
    """Returns the sum of the ratios of a form times the gaps."""
    total = (0, 1)
    for share, gap in zip(form, gaps):
        total = plus(total, times(share, gap))
    return total
