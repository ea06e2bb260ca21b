"""Meetings: which lines of like balls meet, when, and which meeting comes first whatever the gaps are."""

from untoldgaps.blends import blend_of
from untoldgaps.errors import NoMeeting, SameMeeting
from untoldgaps.forms import value_of
from untoldgaps.likeballs import check_like
from untoldgaps.ratios import is_whole, lowest_terms
from untoldgaps.rows import check_gaps


class Ahead:
    """The first meeting comes first, whatever the gaps are."""

    def __eq__(self, other):
        return isinstance(other, Ahead)


class Behind:
    """The other meeting comes first, whatever the gaps are."""

    def __eq__(self, other):
        return isinstance(other, Behind)


class Either:
    """Either meeting may come first: the first one with the gaps ahead, the other one with the gaps behind."""

    def __init__(self, ahead, behind):
        self.ahead = ahead
        self.behind = behind

    def __eq__(self, other):
        return isinstance(other, Either) and self.ahead == other.ahead and self.behind == other.behind


def meetings_of(row):
    """Returns all meetings of lines with the wall and with each other."""
    check_like(row)
    speeds = blend_of(row.speeds)[1:]
    couples = [(one, other) for one in range(len(row)) for other in range(one + 1, len(row))]
    passes = [("pass", one, other) for one, other in couples if speeds[one] > speeds[other]]
    if not row.wall:
        return tuple(passes)
    turns = [("wall", line) for line, speed in enumerate(speeds) if speed < 0]
    backs = [("back", one, other) for one, other in couples if speeds[one] + speeds[other] < 0]
    return tuple(turns + passes + backs)


def _check_meeting(row, meeting):
    """Raises NoMeeting unless the row has the meeting."""
    if not isinstance(meeting, tuple) or not all([is_whole(line) for line in meeting[1:]]):
        raise NoMeeting(meeting)
    if meeting not in meetings_of(row):
        raise NoMeeting(meeting)


def _gaps_ahead(row, line):
    """Returns 1 for each gap to the left of the begin of a line, 0 for the others."""
    return [1 if pair < line else 0 for pair in row.pairs]


def _parted_moment(row, meeting):
    """Returns the moment of a meeting: how often each gap is in it, and by which whole number this is divided.

    The number is a speed over the common bottom of all speeds.
    """
    speeds = blend_of(row.speeds)[1:]
    one = meeting[1]
    near = _gaps_ahead(row, one)
    if meeting[0] == "wall":
        return near, -speeds[one]
    other = meeting[2]
    far = _gaps_ahead(row, other)
    if meeting[0] == "pass":
        return [late - soon for soon, late in zip(near, far)], speeds[one] - speeds[other]
    return [late + soon for soon, late in zip(near, far)], -speeds[one] - speeds[other]


def meeting_moment(row, gaps, meeting):
    """Returns the moment of a meeting."""
    check_like(row)
    told = check_gaps(row, gaps)
    _check_meeting(row, meeting)
    counts, closing = _parted_moment(row, meeting)
    bottom = blend_of(row.speeds)[0]
    return value_of([lowest_terms(count * bottom, closing) for count in counts], told)


def _lead(one, other):
    """Returns by how much more of each gap is in the second parted moment than in the first, times one number."""
    counts, closing = one
    rivals, pace = other
    return [rival * closing - count * pace for count, rival in zip(counts, rivals)]


def _gaps_above(lead):
    """Returns gaps at which a row of whole numbers, one of them above 0, has a value above 0."""
    place = lead.index(max(lead))
    great = 1 + sum([abs(number) for number in lead])
    return tuple([(great, 1) if at == place else (1, 1) for at in range(len(lead))])


def meeting_order(row, one, other):
    """Tells which of two meetings comes first, whatever the gaps are."""
    check_like(row)
    _check_meeting(row, one)
    _check_meeting(row, other)
    if one == other:
        raise SameMeeting(other)
    lead = _lead(_parted_moment(row, one), _parted_moment(row, other))
    if min(lead) >= 0:
        return Ahead()
    if max(lead) <= 0:
        return Behind()
    return Either(_gaps_above(lead), _gaps_above([-number for number in lead]))


def sure_meeting_orders(row):
    """Returns all (first, second) of meetings of which the first one comes first, whatever the gaps are."""
    meetings = meetings_of(row)
    told = [(meeting, _parted_moment(row, meeting)) for meeting in meetings]
    return tuple([
        (first, second)
        for first, moment in told
        for second, later in told
        if first != second and min(_lead(moment, later)) >= 0
    ])
