"""[7.5], [7.6] Meetings of lines."""

import unittest
from fractions import Fraction
from random import Random

from helping import NO_RATIOS, NO_SEQUENCES, Case, as_told
from oracle import fractions
from samples import some_row

from untoldgaps.errors import BadGaps, NoMeeting, SameMeeting, Unlike
from untoldgaps.likeballs import ball_of, like_counts, like_moments, like_standing
from untoldgaps.meetings import Ahead, Behind, Either, meeting_moment, meeting_order, meetings_of, sure_meeting_orders
from untoldgaps.rows import Row

ROW = Row((1, 1, 1, 1), (2, 0, 1, -1))
WALLED = Row((3, 3, 3), (-1, 2, -2), True)
UNLIKE = Row([1, 1, 2], [1, 0, -1])
# Nothing of this is a meeting of ROW, and nothing of WALLED.
NO_MEETINGS = (
    None,
    7,
    True,
    "pass",
    (),
    ("pass",),
    ("pass", 0),
    ("pass", 1, 0),
    ("pass", 0, 4),
    ("pass", 0, 1, 2),
    ("pass", 0, True),
    ("pass", False, 1),
    ("pass", 0.0, 1),
    ("pass", (0, 1), 1),
    ("pass", [0], 1),
    ("pass", "0", "1"),
    ["pass", 0, 1],
    ["pass", 1, 2],
    ("Pass", 0, 1),
    ("wall", -1),
    ("wall", 3),
    ("wall", False),
    ("wall", True),
    ("wall",),
    ("wall", 0, 1),
    ["wall", 0],
    ("back", 2, 0),
    (0, 1),
    (("pass", 0, 1),),
    (["pass"], 0, 1),
    (True, 0, 1),
    (b"pass", 0, 1),
    {"pass": 0},
)


def like_row(chance, most=6, wall=None):
    row = some_row(chance, wall, most=most, size=chance.choice((1, 3)), parts=chance.choice((1, 3)))
    return Row([chance.choice((1, 4, 9))] * len(row), row.speeds, row.wall)


def wide_gaps(chance, row, size=60):
    return [(chance.randint(1, size), chance.randint(1, 2)) for _ in row.pairs]


def rule_meetings(row):
    """The meetings of [7.5] told a second time."""
    speeds = fractions(row.speeds)
    balls = range(len(row))
    walls = [("wall", i) for i in balls if row.wall and speeds[i] < 0]
    passes = [("pass", i, j) for i in balls for j in balls if i < j and speeds[i] > speeds[j]]
    backs = [("back", i, j) for i in balls for j in balls if i < j and row.wall and speeds[i] + speeds[j] < 0]
    return walls + passes + backs


def rule_moment(row, gaps, meeting):
    """The moment of a meeting by the formulas of [7.5]."""
    places = fractions(like_standing(row, gaps, 0)[0])
    speeds = fractions(row.speeds)
    i = meeting[1]
    if meeting[0] == "wall":
        return places[i] / -speeds[i]
    j = meeting[2]
    if meeting[0] == "pass":
        return (places[j] - places[i]) / (speeds[i] - speeds[j])
    return (places[i] + places[j]) / -(speeds[i] + speeds[j])


def factors(row, meeting):
    """What each gap adds to the moment of a meeting, by the moments of gaps that differ in one of them."""
    ones = [1] * row.gap_count
    base = rule_moment(row, ones, meeting)
    return [rule_moment(row, ones[:at] + [2] + ones[at + 1:], meeting) - base for at in range(row.gap_count)]


def rule_order(row, one, other):
    less = [a <= b for a, b in zip(factors(row, one), factors(row, other))]
    more = [a >= b for a, b in zip(factors(row, one), factors(row, other))]
    return Ahead if all(less) else Behind if all(more) else Either


class MeetingsTest(Case):
    def test_some(self):
        self.is_same(meetings_of(ROW), (("pass", 0, 1), ("pass", 0, 2), ("pass", 0, 3), ("pass", 1, 3), ("pass", 2, 3)))
        self.is_same(
            meetings_of(WALLED),
            (("wall", 0), ("wall", 2), ("pass", 0, 2), ("pass", 1, 2), ("back", 0, 2)),
        )
        self.is_same(meetings_of(Row([1, 1], [-1, -2], True)), (("wall", 0), ("wall", 1), ("pass", 0, 1), ("back", 0, 1)))
        self.is_same(meetings_of(Row([1, 1], [-1, 1], True)), (("wall", 0),))
        self.is_same(meetings_of(Row([1], [0], True)), ())
        self.is_same(meetings_of(Row([1, 1], [1, 1])), ())
        self.is_same(meetings_of(Row([1, 1], [-1, -1])), ())

    def test_against_the_rule(self):
        chance = Random(401)
        for _ in range(200):
            row = like_row(chance, 8)
            told = meetings_of(row)
            self.is_same(told, tuple(rule_meetings(row)))
            walls, passes = like_counts(row)
            self.assertEqual((walls, passes), (len([1 for each in told if each[0] == "wall"]), len(told) - walls))

    def test_forty_balls(self):
        row = Row([1] * 40, [-speed for speed in range(1, 41)], True)
        told = meetings_of(row)
        self.assertEqual(len(told), 40 + 780 + 780)
        self.is_same(told, tuple(rule_meetings(row)))


class MomentTest(Case):
    def test_some(self):
        self.is_same(meeting_moment(ROW, (1, 1, 1), ("pass", 0, 1)), (1, 2))
        self.is_same(meeting_moment(ROW, (1, 1, 1), ("pass", 0, 3)), (1, 1))
        self.is_same(meeting_moment(ROW, [1, (1, 2), 3], ("pass", 1, 3)), (7, 2))
        self.is_same(meeting_moment(WALLED, [1, 2, 3], ("wall", 2)), (3, 1))
        self.is_same(meeting_moment(WALLED, [1, 2, 3], ("back", 0, 2)), (7, 3))
        self.is_same(meeting_moment(Row([1, 1], [(-1, 2), 0], True), [(2, 4), 9], ("wall", 0)), (1, 1))

    def test_against_the_lines(self):
        """At the moment of a meeting its lines are at one place, turned as often as it tells."""
        chance = Random(402)
        for _ in range(150):
            row = like_row(chance)
            gaps = wide_gaps(chance, row, chance.choice((1, 60)))
            starts = fractions(like_standing(row, gaps, 0)[0])
            met = set()
            for meeting in meetings_of(row):
                moment = meeting_moment(row, gaps, meeting)
                self.is_told(moment)
                self.is_same(moment, as_told(rule_moment(row, gaps, meeting)))
                met.add(moment)
                places = like_standing(row, gaps, moment)[0]
                stands = [places[ball_of(row, gaps, line, moment)] for line in meeting[1:]]
                if meeting[0] == "wall":
                    self.is_same(stands, [(0, 1)])
                    continue
                self.is_same(stands[0], stands[1])
                ways = [starts[k] + Fraction(*row.speeds[k]) * Fraction(*moment) for k in meeting[1:]]
                self.assertEqual(ways[0], ways[1] if meeting[0] == "pass" else -ways[1])
            self.assertEqual(met, {moment for moment, _ in like_moments(row, gaps)})

    def test_great_numbers(self):
        row = Row([1] * 3, [(10**200, 3**90), (1, 7**80), -(10**150)], True)
        gaps = [(10**100, 3), (1, 10**100), 7]
        for meeting in meetings_of(row):
            self.is_same(meeting_moment(row, gaps, meeting), as_told(rule_moment(row, gaps, meeting)))

    def test_errors(self):
        for thing in NO_MEETINGS:
            self.refused(NoMeeting, {"meeting": thing}, meeting_moment, ROW, [1, 1, 1], thing)
            self.refused(NoMeeting, {"meeting": thing}, meeting_moment, WALLED, [1, 1, 1], thing)
            self.refused(BadGaps, {"what": "length"}, meeting_moment, ROW, [1, 1], thing)
            self.refused(Unlike, {}, meeting_moment, UNLIKE, None, thing)
        for meeting in (("pass", 1, 2), ("pass", 0, 0), ("wall", 3), ("back", 0, 3)):
            self.refused(NoMeeting, {"meeting": meeting}, meeting_moment, ROW, [1, 1, 1], meeting)
        for meeting in (("pass", 0, 1), ("wall", 1), ("back", 0, 1), ("back", 1, 2)):
            self.refused(NoMeeting, {"meeting": meeting}, meeting_moment, WALLED, [1, 1, 1], meeting)
        for thing in NO_SEQUENCES + ([], [1, 1], [1] * 4):
            self.refused(BadGaps, {"what": "length"}, meeting_moment, ROW, thing, ("pass", 0, 1))
        for thing in NO_RATIOS + (0, -1):
            self.refused(BadGaps, {"what": "gap"}, meeting_moment, ROW, [1, thing, 1], ("pass", 0, 1))


class OrderTest(Case):
    def judge(self, row, one, other):
        told = meeting_order(row, one, other)
        self.assertIs(told.__class__, rule_order(row, one, other), (row.speeds, one, other))
        if isinstance(told, Either):
            for gaps, sign in ((told.ahead, 1), (told.behind, -1)):
                self.are_told(gaps)
                apart = rule_moment(row, gaps, other) - rule_moment(row, gaps, one)
                self.assertGreater(apart * sign, 0)
        return told

    def test_examples(self):
        self.assertTrue(meeting_order(ROW, ("pass", 0, 1), ("pass", 0, 2)) == Ahead())
        self.assertTrue(meeting_order(ROW, ("pass", 0, 2), ("pass", 0, 1)) == Behind())
        self.assertIs(self.judge(ROW, ("pass", 0, 1), ("pass", 2, 3)).__class__, Either)

    def test_against_the_rule(self):
        chance = Random(403)
        seen = {Ahead: 0, Behind: 0, Either: 0}
        for _ in range(60):
            row = like_row(chance, 5)
            meetings = meetings_of(row)
            for one in meetings:
                for other in meetings:
                    if one != other:
                        seen[self.judge(row, one, other).__class__] += 1
        self.assertGreater(min(seen.values()), 50)

    def test_runs_keep_to_it(self):
        """What is Ahead comes first with any gaps drawn."""
        chance = Random(404)
        for _ in range(40):
            row = like_row(chance, 6)
            orders = sure_meeting_orders(row)
            for _ in range(3):
                gaps = wide_gaps(chance, row)
                for one, other in orders:
                    self.assertLess(rule_moment(row, gaps, one), rule_moment(row, gaps, other))

    def test_sure_orders(self):
        self.is_same(sure_meeting_orders(Row([1, 1], [1, 0])), ())
        self.is_same(
            sure_meeting_orders(Row([1, 1, 1], [1, 0, -1])),
            (),
        )
        self.is_same(
            sure_meeting_orders(ROW),
            ((("pass", 0, 1), ("pass", 0, 2)), (("pass", 2, 3), ("pass", 1, 3))),
        )
        chance = Random(405)
        found = 0
        for _ in range(40):
            row = like_row(chance, 5)
            meetings = meetings_of(row)
            expected = [
                (one, other)
                for one in meetings
                for other in meetings
                if one != other and meeting_order(row, one, other) == Ahead()
            ]
            self.is_same(sure_meeting_orders(row), tuple(expected))
            found += len(expected)
        self.assertGreater(found, 100)

    def test_sure_orders_of_twelve_balls(self):
        chance = Random(406)
        drawn = [chance.randint(-9, 9) for _ in range(12)]
        for row in (Row([1] * 12, [-speed for speed in range(12)], True), Row([1] * 12, drawn)):
            told = sure_meeting_orders(row)
            meetings = meetings_of(row)
            self.assertGreater(len(meetings), 20)
            places = {meeting: at for at, meeting in enumerate(meetings)}
            self.assertEqual(list(told), sorted(told, key=lambda each: (places[each[0]], places[each[1]])))
            table = {meeting: factors(row, meeting) for meeting in meetings}
            expected = [
                (one, other)
                for one in meetings
                for other in meetings
                if one != other and all(a <= b for a, b in zip(table[one], table[other]))
            ]
            self.is_same(told, tuple(expected))
            one, other = chance.choice(told)
            self.assertTrue(meeting_order(row, other, one) == Behind())

    def test_errors(self):
        good, other = ("pass", 0, 1), ("pass", 0, 2)
        for thing in NO_MEETINGS:
            self.refused(NoMeeting, {"meeting": thing}, meeting_order, ROW, thing, good)
            self.refused(NoMeeting, {"meeting": thing}, meeting_order, ROW, good, thing)
            self.refused(NoMeeting, {"meeting": thing}, meeting_order, ROW, thing, thing)
            self.refused(NoMeeting, {"meeting": thing}, meeting_order, ROW, thing, ("pass", 1, 2))
            self.refused(Unlike, {}, meeting_order, UNLIKE, thing, thing)
        for meeting in meetings_of(ROW):
            self.refused(SameMeeting, {"meeting": meeting}, meeting_order, ROW, meeting, meeting)
        self.assertTrue(meeting_order(ROW, good, other) == Ahead())
        for row in (UNLIKE, Row([1] * 39 + [2], [0] * 40, True)):
            self.refused(Unlike, {}, meetings_of, row)
            self.refused(Unlike, {}, sure_meeting_orders, row)
            self.refused(Unlike, {}, meeting_order, row, good, good)


class ResultsTest(Case):
    def test_equality(self):
        gaps, wide = ((1, 1),), ((2, 1),)
        for one, other in ((Ahead(), Ahead()), (Behind(), Behind()), (Either(gaps, wide), Either(((1, 1),), ((2, 1),)))):
            self.assertTrue(one == other)
            self.assertFalse(one != other)
        for one, other in (
            (Ahead(), Behind()),
            (Behind(), Ahead()),
            (Ahead(), None),
            (Behind(), True),
            (Ahead(), Either(gaps, wide)),
            (Either(gaps, wide), Either(wide, wide)),
            (Either(gaps, wide), Either(gaps, gaps)),
            (Either(gaps, wide), (gaps, wide)),
        ):
            self.assertFalse(one == other)
            self.assertTrue(one != other)

    def test_constructor_keeps_all(self):
        ahead, behind = ((1, 1),), None
        told = Either(ahead, behind)
        self.assertIs(told.ahead, ahead)
        self.assertIs(told.behind, behind)


if __name__ == "__main__":
    unittest.main()
