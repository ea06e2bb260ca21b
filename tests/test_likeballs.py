"""[7.1] to [7.4] Like balls."""

import unittest
from fractions import Fraction
from random import Random

from helping import NO_RATIOS, NO_SEQUENCES, NO_WHOLES, Case, as_told
from oracle import fractions, whole_run, world_at
from samples import gaps_of_many, row_of_many, some_row

from untoldgaps.errors import BadGaps, BadMoment, NoBall, Unlike
from untoldgaps.likeballs import ball_of, like_counts, like_end, like_moments, like_standing, line_of
from untoldgaps.rows import Row
from untoldgaps.runs import Border, Run, run_of
from untoldgaps.tracks import standing_at

ROW = Row((1, 1, 1, 1), (2, 0, 1, -1))
WALLED = Row((3, 3, 3), (-1, 2, -2), True)
UNLIKE = Row([1, 1, 2], [1, 0, -1])
NO_MOMENTS = NO_RATIOS + (-1, (-1, 2))
# Three lines meet at moment 1.
MEETING = Row((1, 1, 1), (1, 0, -1))


def like_rows(number, count, most=6):
    chance = Random(number)
    for _ in range(count):
        weight = chance.choice((1, 4, 9))
        row = some_row(chance, most=most, size=chance.choice((1, 4)), parts=chance.choice((1, 3)))
        yield Row([weight] * len(row), row.speeds, row.wall)


def some_cases(number, count, most=6):
    """Like rows with gaps; those of few sizes bring levels, borders and meetings of three lines."""
    chance = Random(number)
    for row in like_rows(number, count, most):
        size = chance.choice((1, 2, 60))
        yield row, [(chance.randint(1, size), chance.randint(1, 2)) for _ in row.pairs]


def lines_at(row, gaps, moment):
    """The lines told a second time: (place, speed, line) from left to right, speeds behind all clashes."""
    places = [] if row.wall else [Fraction(0)]
    place = Fraction(0)
    for gap in fractions(gaps):
        place += gap
        places.append(place)
    told = []
    for line, (start, speed) in enumerate(zip(places, fractions(row.speeds))):
        now = start + speed * moment
        if row.wall and now <= 0:
            now, speed = -now, -speed
        told.append((now, speed, line))
    return sorted(told)


def slow_moments(row, gaps):
    """All moments at which two lines or the wall are at one place, and the pairs that are then at gap 0."""
    starts = [place for place, _, _ in sorted(lines_at(row, gaps, 0), key=lambda each: each[2])]
    speeds = fractions(row.speeds)
    moments = set()
    for i, (x, u) in enumerate(zip(starts, speeds)):
        for y, v in list(zip(starts, speeds))[:i]:
            moments.update([(y - x) / (u - v)] if u != v else [])
            moments.update([-(x + y) / (u + v)] if row.wall and u + v != 0 else [])
        moments.update([-x / u] if row.wall and u != 0 else [])
    for moment in sorted(moment for moment in moments if moment > 0):
        places = ([Fraction(0)] if row.wall else []) + [place for place, _, _ in lines_at(row, gaps, moment)]
        pairs = tuple([pair for pair, one, other in zip(row.pairs, places, places[1:]) if one == other])
        if pairs:
            yield as_told(moment), pairs


class EndTest(Case):
    def test_some(self):
        self.is_same(like_end(ROW), ((-1, 1), (0, 1), (1, 1), (2, 1)))
        self.is_same(like_end(WALLED), ((1, 1), (2, 1), (2, 1)))
        self.is_same(like_end(Row([5, 5], [(1, 2), (-2, 3)])), ((-2, 3), (1, 2)))
        self.is_same(like_end(Row([5], [(-3, 6)], True)), ((1, 2),))
        self.is_same(like_end(Row([5, 5], [0, (-3, 6)], True)), ((0, 1), (1, 2)))

    def test_against_runs(self):
        for row, gaps in some_cases(331, 200):
            clashes, border, world = whole_run(row, gaps)
            if border is None:
                self.is_same(like_end(row), tuple([as_told(speed) for speed in world.speeds]))

    def test_forty_balls(self):
        chance = Random(332)
        for wall in (False, True):
            speeds = [(chance.randint(-99, 99), chance.randint(1, 9)) for _ in range(40)]
            told = like_end(Row([2] * 40, speeds, wall))
            self.are_told(told)
            values = fractions(speeds)
            self.assertEqual(fractions(told), sorted([abs(value) for value in values] if wall else values))


class CountsTest(Case):
    def test_some(self):
        self.is_same(like_counts(ROW), (0, 5))
        self.is_same(like_counts(Row((1, 1), (1, -2), True)), (1, 2))
        self.is_same(like_counts(MEETING), (0, 3))
        self.is_same(like_counts(Row([1, 1], [-1, -1], True)), (2, 1))
        self.is_same(like_counts(Row([1, 1], [0, 0], True)), (0, 0))
        self.is_same(like_counts(Row([1, 1], [1, -1], True)), (1, 1))
        self.is_same(like_counts(Row([1, 1], [0, -1], True)), (1, 2))
        self.is_same(like_counts(Row([9, 9], [0, 5])), (0, 0))

    def test_against_runs(self):
        for row, gaps in some_cases(333, 250):
            clashes, border, _ = whole_run(row, gaps)
            if border is None:
                walls = [pair for _, pair, _ in clashes].count(-1)
                self.is_same(like_counts(row), (walls, len(clashes) - walls))

    def test_forty_balls(self):
        row = Row([1] * 40, [-speed for speed in range(1, 41)], True)
        self.is_same(like_counts(row), (40, 1560))
        row = Row([1] * 40, [40 - ball for ball in range(40)])
        self.is_same(like_counts(row), (0, 780))
        # As many as a run has that is refused by Long, and as one that is not.
        for last in (12, 28):
            row = row_of_many(last)
            run = run_of(row, gaps_of_many(row))
            walls = run.word.count(-1)
            self.is_same(like_counts(row), (walls, len(run) - walls))
        self.assertEqual(sum(like_counts(row_of_many(0))), 812)


class StandingTest(Case):
    def test_some(self):
        self.is_same(like_standing(ROW, [1, 1, 1], 0), (((0, 1), (1, 1), (2, 1), (3, 1)), ROW.speeds))
        # At 1/2 the lines 0 and 1 and the lines 2 and 3 meet.
        self.is_same(
            like_standing(ROW, [1, 1, 1], (1, 2)),
            (((1, 1), (1, 1), (5, 2), (5, 2)), ((0, 1), (2, 1), (-1, 1), (1, 1))),
        )
        self.is_same(like_standing(Row([2], [(-1, 2)], True), [1], 2), (((0, 1),), ((1, 2),)))
        self.is_same(like_standing(Row([2], [(-1, 2)], True), [1], 3), (((1, 2),), ((1, 2),)))
        self.is_same(like_standing(Row([2], [(-1, 2)], True), [1], 1), (((1, 2),), ((-1, 2),)))

    def test_three_lines(self):
        self.is_same(like_standing(MEETING, [1, 1], 1), (((1, 1),) * 3, ((-1, 1), (0, 1), (1, 1))))
        # The lines go on behind what run_of tells a Border.
        self.assertIsInstance(run_of(MEETING, [1, 1]), Border)
        self.is_same(like_standing(MEETING, [1, 1], 3), (((-1, 1), (1, 1), (3, 1)), ((-1, 1), (0, 1), (1, 1))))
        # Two lines at the wall at one moment.
        row = Row([1, 1], [-1, -2], True)
        self.is_same(like_standing(row, [1, 1], 1), (((0, 1), (0, 1)), ((1, 1), (2, 1))))
        self.is_same(like_standing(row, [1, 1], 2), (((1, 1), (2, 1)), ((1, 1), (2, 1))))

    def moments_of(self, row, gaps):
        """Moment 0, the moments of all clashes, moments between them and one behind all."""
        told = [Fraction(0)] + [Fraction(*moment) for moment, _ in slow_moments(row, gaps)]
        between = [(one + other) / 2 for one, other in zip(told, told[1:])]
        return sorted(told + between + [told[-1] + 1])

    def test_against_runs(self):
        for row, gaps in some_cases(334, 120, 5):
            for moment in self.moments_of(row, gaps):
                told = like_standing(row, gaps, as_told(moment))
                lines = lines_at(row, gaps, moment)
                expected = (
                    tuple([as_told(place) for place, _, _ in lines]),
                    tuple([as_told(speed) for _, speed, _ in lines]),
                )
                self.is_same(told, expected)
                world = world_at(row, gaps, moment)
                if world is not None:
                    self.assertEqual(fractions(told[0]), world.places)
                    self.assertEqual(fractions(told[1]), world.speeds)
                    self.is_same(standing_at(row, gaps, as_told(moment)), told)

    def test_forty_balls(self):
        row = Row([1] * 40, [-speed for speed in range(1, 41)], True)
        gaps = gaps_of_many(row)
        places, speeds = like_standing(row, gaps, 10**6)
        self.is_same(speeds, like_end(row))
        self.assertEqual(fractions(places), sorted(fractions(places)))

    def test_great_moments(self):
        moment = (10**400 + 7, 3**300)
        places, speeds = like_standing(WALLED, [1, 2, 3], moment)
        self.is_same(speeds, like_end(WALLED))
        lines = lines_at(WALLED, [1, 2, 3], Fraction(*moment))
        self.assertEqual(fractions(places), [place for place, _, _ in lines])


class LinesTest(Case):
    def test_some(self):
        for ball in range(4):
            self.is_same(line_of(ROW, [1, 1, 1], ball, 0), ball)
            self.is_same(ball_of(ROW, [1, 1, 1], ball, 0), ball)
        # Behind all clashes the quickest line leads.
        self.is_same([line_of(ROW, [1, 1, 1], ball, 9) for ball in range(4)], [3, 1, 2, 0])
        self.is_same([ball_of(ROW, [1, 1, 1], line, 9) for line in range(4)], [3, 1, 2, 0])
        # At the moment of a clash the lines have passed each other already.
        self.is_same([line_of(ROW, [1, 1, 1], ball, (1, 2)) for ball in range(4)], [1, 0, 3, 2])
        self.is_same([line_of(MEETING, [1, 1], ball, 1) for ball in range(3)], [2, 1, 0])

    def test_against_lines(self):
        for row, gaps in some_cases(335, 120, 5):
            moments = [Fraction(0), Fraction(1, 3), Fraction(99)]
            moments += [Fraction(*moment) for moment, _ in slow_moments(row, gaps)]
            for moment in moments:
                expected = [line for _, _, line in lines_at(row, gaps, moment)]
                told = as_told(moment)
                self.is_same([line_of(row, gaps, ball, told) for ball in range(len(row))], expected)
                balls = [ball_of(row, gaps, line, told) for line in range(len(row))]
                self.assertEqual([expected[ball] for ball in balls], list(range(len(row))))

    def test_lines_go_straight(self):
        """The ball that follows a line stands where the line is, turned at the wall."""
        for row, gaps in some_cases(336, 60, 5):
            starts = like_standing(row, gaps, 0)[0]
            for moment in (0, 1, (7, 2)):
                places, speeds = like_standing(row, gaps, moment)
                for line in range(len(row)):
                    ball = ball_of(row, gaps, line, moment)
                    speed = Fraction(*row.speeds[line])
                    place = Fraction(*starts[line]) + speed * fractions([moment])[0]
                    self.assertEqual(Fraction(*places[ball]), abs(place) if row.wall else place)
                    self.assertEqual(abs(Fraction(*speeds[ball])), abs(speed))


class MomentsTest(Case):
    def test_example(self):
        self.is_same(like_moments(ROW, (1, 1, 1)), (((1, 2), (0, 2)), ((1, 1), (1,)), ((2, 1), (0, 2))))
        self.is_same(like_moments(MEETING, [1, 1]), (((1, 1), (0, 1)),))

    def test_some(self):
        self.is_same(like_moments(Row([1, 1], [0, 0]), [1]), ())
        self.is_same(like_moments(Row([1], [-2], True), [(1, 2)]), (((1, 4), (-1,)),))
        self.is_same(like_moments(Row([1, 1], [-1, -2], True), [1, 1]), (((1, 1), (-1, 0)),))
        self.is_same(
            like_moments(Row([1, 1], [-1, -2], True), [2, 1]),
            (((1, 1), (0,)), ((3, 2), (-1,)), ((5, 3), (0,)), ((2, 1), (-1,))),
        )

    def test_against_runs(self):
        seen = {Run: 0, Border: 0}
        for row, gaps in some_cases(337, 1200, 5):
            told = like_moments(row, gaps)
            self.is_same(told, tuple(slow_moments(row, gaps)))
            run = run_of(row, gaps)
            seen[run.__class__] += 1
            borders = [
                (moment, pairs) for moment, pairs in told if any(pair + 1 in pairs for pair in pairs)
            ]
            if isinstance(run, Border):
                self.is_same(borders[0][0], run.moment)
            else:
                self.assertEqual(borders, [])
                self.is_same(tuple([pair for _, pairs in told for pair in pairs]), run.word)
                self.is_same(tuple([moment for moment, pairs in told for _ in pairs]), run.moments)
        self.assertGreater(min(seen.values()), 30)

    def test_forty_balls(self):
        row = Row([1] * 40, [-speed for speed in range(1, 41)], True)
        told = like_moments(row, gaps_of_many(row))
        self.assertEqual(sum(len(pairs) for _, pairs in told), 1600)
        moments = [Fraction(*moment) for moment, _ in told]
        self.assertEqual(moments, sorted(set(moments)))
        # Close to one another, with great numbers.
        row = Row([1] * 3, [10**200 + 1, 10**200, 0])
        told = like_moments(row, [(1, 10**200), (10**200, 3)])
        self.is_same(told, tuple(slow_moments(row, [(1, 10**200), (10**200, 3)])))


class ErrorsTest(Case):
    GAPS = [1, 2, 3]

    def test_unlike_first(self):
        for row in (UNLIKE, Row([1] * 39 + [2], [0] * 40, True), Row([2, 1], [0, 0])):
            self.refused(Unlike, {}, like_end, row)
            self.refused(Unlike, {}, like_counts, row)
            for gaps in (None, [0] * row.gap_count, [1] * row.gap_count):
                self.refused(Unlike, {}, like_moments, row, gaps)
                self.refused(Unlike, {}, like_standing, row, gaps, -1)
                self.refused(Unlike, {}, line_of, row, gaps, 99, -1)
                self.refused(Unlike, {}, ball_of, row, gaps, 99, -1)

    def test_gaps(self):
        bad = [("length", thing) for thing in NO_SEQUENCES + ([], [1, 2], [1, 2, 3, 4])]
        bad += [("gap", [1, thing, 1]) for thing in NO_RATIOS + (0, -1, (0, 1))]
        for what, gaps in bad:
            self.refused(BadGaps, {"what": what}, like_moments, ROW, gaps)
            self.refused(BadGaps, {"what": what}, like_standing, ROW, gaps, -1)
            self.refused(BadGaps, {"what": what}, line_of, ROW, gaps, 99, -1)
            self.refused(BadGaps, {"what": what}, ball_of, ROW, gaps, 99, -1)

    def test_balls_and_lines(self):
        for thing in NO_WHOLES + (-1, 4):
            for moment in (0, -1, None):
                self.refused(NoBall, {"ball": thing}, line_of, ROW, self.GAPS, thing, moment)
                self.refused(NoBall, {"ball": thing}, ball_of, ROW, self.GAPS, thing, moment)

    def test_moments(self):
        for thing in NO_MOMENTS:
            self.refused(BadMoment, {"moment": thing}, like_standing, ROW, self.GAPS, thing)
            self.refused(BadMoment, {"moment": thing}, line_of, ROW, self.GAPS, 0, thing)
            self.refused(BadMoment, {"moment": thing}, ball_of, ROW, self.GAPS, 0, thing)

    def test_what_is_passed_stays(self):
        gaps = [1, (2, 4), 3]
        like_moments(ROW, gaps)
        like_standing(ROW, gaps, (2, 4))
        self.is_same(gaps, [1, (2, 4), 3])


if __name__ == "__main__":
    unittest.main()
