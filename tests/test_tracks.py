"""[3.8], [3.9], [3.10] Places, rows that are moved on or turned, and paths of single balls."""

import unittest
from fractions import Fraction
from random import Random

from helping import NO_RATIOS, NO_SEQUENCES, NO_WHOLES, Case, as_told
from oracle import fractions, whole_run, world_at
from samples import gaps_of_many, row_of_many, some_gaps, some_row

from untoldgaps.errors import AtClash, BadGaps, BadMoment, Long, NoBall
from untoldgaps.ratios import minus
from untoldgaps.rows import Row
from untoldgaps.runs import Border, run_of
from untoldgaps.tracks import gaps_at, moved_on, reach_of, standing_at, track_of, turned_at

ROW = Row([2, 1, 2], [1, 0, -1])
AT_MOMENT = (standing_at, gaps_at, moved_on, turned_at)
OF_BALL = (track_of, reach_of)


def told(numbers):
    return tuple([as_told(Fraction(number)) for number in numbers])


def some_cases(number, count):
    chance = Random(number)
    for _ in range(count):
        row = some_row(chance, weights=chance.choice((1, 3, 9)), parts=chance.choice((1, 3)))
        yield row, some_gaps(chance, row, chance.choice((1, 3, 30))), chance


def moments_of(clashes, chance):
    """Moments of clashes, between them, at the begin and behind them all."""
    moments = [Fraction(0), Fraction(chance.randint(1, 40), 3)]
    for moment, _, _ in clashes:
        moments += [moment, (moment + moments[-1]) / 2]
    return moments + [max(moments) + 1]


class ErrorsTest(Case):
    def test_gaps_first(self):
        row = Row([1, 1], [0, -1], True)
        for call in AT_MOMENT + OF_BALL:
            for last in (0, None):
                for thing in NO_SEQUENCES + ([], [1], [1, 2, 3]):
                    self.refused(BadGaps, {"what": "length"}, call, row, thing, last)
                for thing in NO_RATIOS + (0, -1):
                    self.refused(BadGaps, {"what": "gap"}, call, row, [1, thing], last)

    def test_moments(self):
        for call in AT_MOMENT:
            for thing in NO_RATIOS + (-1, (-1, 9)):
                self.refused(BadMoment, {"moment": thing}, call, ROW, [1, 2], thing)
                # Also where a border comes at once.
                self.refused(BadMoment, {"moment": thing}, call, ROW, [1, 1], thing)

    def test_balls(self):
        for call in OF_BALL:
            for thing in NO_WHOLES + (-1, 3):
                self.refused(NoBall, {"ball": thing}, call, ROW, [1, 2], thing)
                self.refused(NoBall, {"ball": thing}, call, ROW, [1, 1], thing)

    def test_what_is_passed_stays(self):
        gaps = [(2, 4), 7]
        for call in AT_MOMENT + OF_BALL:
            call(ROW, gaps, 0)
        self.is_same(gaps, [(2, 4), 7])


class StandingTest(Case):
    def test_begin(self):
        self.is_same(standing_at(ROW, [1, (4, 2)], 0), (((0, 1), (1, 1), (3, 1)), ROW.speeds))
        self.is_same(gaps_at(ROW, [1, (4, 2)], (0, 5)), ((1, 1), (2, 1)))
        row = Row([1, 1], [0, -1], True)
        self.is_same(standing_at(row, [(1, 2), 1], 0), (((1, 2), (3, 2)), ((0, 1), (-1, 1))))

    def test_at_a_clash(self):
        self.is_same(standing_at(ROW, [1, 2], 1), (((1, 1), (1, 1), (2, 1)), ((1, 3), (4, 3), (-1, 1))))
        self.is_same(gaps_at(ROW, [1, 2], 1), ((0, 1), (1, 1)))

    def test_on_a_level(self):
        row = Row([1, 1, 1, 1], [1, 0, 1, 0])
        places = ((2, 1), (2, 1), (9, 1), (9, 1))
        self.is_same(standing_at(row, [2, 5, 2], 2), (places, ((0, 1), (1, 1), (0, 1), (1, 1))))
        self.is_same(gaps_at(row, [2, 5, 2], 2), ((0, 1), (7, 1), (0, 1)))

    def test_border(self):
        border = Border(1, (0, 1), ())
        for call in AT_MOMENT:
            self.assertEqual(call(ROW, [1, 1], 1), border)
            self.assertEqual(call(ROW, [1, 1], (3, 2)), border)
            self.assertFalse(isinstance(call(ROW, [1, 1], (99, 100)), Border))
        self.is_same(gaps_at(ROW, [1, 1], (1, 2)), ((1, 2), (1, 2)))
        row = Row([1, 1, 1, 1], [4, 0, 0, -1])
        for call in AT_MOMENT:
            self.assertEqual(call(row, [4, 4, 2], 2), Border(2, (1, 2), (0,)))
            self.assertEqual(call(row, [4, 4, 2], 200), Border(2, (1, 2), (0,)))
            self.assertFalse(isinstance(call(row, [4, 4, 2], (3, 2)), Border))

    def test_behind_all_clashes(self):
        run = run_of(ROW, [1, 2])
        self.is_same(standing_at(ROW, [1, 2], 10**6)[1], run.speeds)
        self.is_same(gaps_at(ROW, [1, 2], run.moments[-1]), run.gaps)

    def test_against_the_rules(self):
        for row, gaps, chance in some_cases(91, 150):
            clashes, border, _ = whole_run(row, gaps)
            for moment in moments_of(clashes, chance):
                world = world_at(row, gaps, moment)
                standing = standing_at(row, gaps, as_told(moment))
                if world is None:
                    self.assertEqual(standing, run_of(row, gaps))
                    self.assertEqual(gaps_at(row, gaps, as_told(moment)), standing)
                    self.assertLessEqual(border[0], moment)
                    continue
                self.is_same(standing, (told(world.places), told(world.speeds)))
                self.is_same(gaps_at(row, gaps, as_told(moment)), told(world.gaps()))


class LongTest(Case):
    def test_standing(self):
        row = row_of_many(11)
        gaps = gaps_of_many(row)
        clashes, _, _ = whole_run(row, gaps)
        last, one_more = clashes[799][0], clashes[800][0]
        for call in AT_MOMENT:
            self.refused(Long, {"count": 800}, call, row, gaps, as_told(one_more))
            self.refused(Long, {"count": 800}, call, row, gaps, as_told(one_more + 1))
        between = as_told((last + one_more) / 2)
        self.assertEqual(standing_at(row, gaps, between)[1], told(clashes[799][2]))
        self.assertEqual(moved_on(row, gaps, between)[0].speeds, told(clashes[799][2]))
        self.assertEqual(gaps_at(row, gaps, as_told(last)).count((0, 1)), 1)
        self.refused(AtClash, {"moment": as_told(last)}, moved_on, row, gaps, as_told(last))
        for call in OF_BALL:
            self.refused(Long, {"count": 800}, call, row, gaps, 0)

    def test_eight_hundred(self):
        row = row_of_many(12)
        gaps = gaps_of_many(row)
        run = run_of(row, gaps)
        self.assertEqual(standing_at(row, gaps, 10**9)[1], run.speeds)
        self.assertEqual(track_of(row, gaps, 3)[-1][2], run.speeds[3])
        self.assertEqual(reach_of(row, gaps, 3)[1], None)

    def test_border_behind_eight_hundred(self):
        row = row_of_many(12, (1002, 1001, 1000))
        gaps = gaps_of_many(row, (1, 10**9, 10**9))
        border = run_of(row, gaps)
        for call in AT_MOMENT:
            self.assertEqual(call(row, gaps, 10**9), border)
            self.assertFalse(isinstance(call(row, gaps, 10**9 - 1), Border))
        for call in OF_BALL:
            self.assertEqual(call(row, gaps, 0), border)


class MovedTest(Case):
    def test_moved_on(self):
        row, gaps = moved_on(ROW, [1, 2], (6, 5))
        self.assertEqual(row, Row([2, 1, 2], [(1, 3), (4, 3), -1]))
        self.is_same(gaps, ((1, 5), (8, 15)))
        row, gaps = moved_on(ROW, [1, (4, 2)], 0)
        self.assertEqual(row, ROW)
        self.is_same(gaps, ((1, 1), (2, 1)))

    def test_turned_at(self):
        row, gaps = turned_at(ROW, [1, 2], (6, 5))
        self.assertEqual(row, Row([2, 1, 2], [(-1, 3), (-4, 3), 1]))
        self.is_same(gaps, ((1, 5), (8, 15)))
        self.assertEqual(turned_at(ROW, [1, 2], 0), (ROW.turned(), ((1, 1), (2, 1))))

    def test_at_a_clash(self):
        for call in (moved_on, turned_at):
            self.refused(AtClash, {"moment": (1, 1)}, call, ROW, [1, 2], (1, 1))
            self.refused(AtClash, {"moment": (10, 7)}, call, ROW, [1, 2], (10, 7))
            self.refused(AtClash, {"moment": (34, 13)}, call, ROW, [1, 2], (34, 13))
            self.refused(AtClash, {"moment": (2, 1)}, call, Row([1] * 4, [1, 0, 1, 0]), [2, 5, 2], (2, 1))

    def test_rest_of_the_run(self):
        for row, gaps, chance in some_cases(92, 150):
            run = run_of(row, gaps)
            if isinstance(run, Border):
                continue
            moment = as_told(Fraction(chance.randint(0, 60), 7))
            if moment in run.moments:
                continue
            ahead = sum(Fraction(*each) < Fraction(*moment) for each in run.moments)
            later, left = moved_on(row, gaps, moment)
            self.are_told(left)
            rest = run_of(later, left)
            self.assertEqual(rest.word, run.word[ahead:])
            self.assertEqual(rest.moments, tuple([minus(each, moment) for each in run.moments[ahead:]]))
            self.assertEqual(rest.speeds, run.speeds)

    def test_way_back(self):
        checked = 0
        for row, gaps, chance in some_cases(93, 200):
            run = run_of(row, gaps)
            moment = as_told(Fraction(chance.randint(0, 100), 7))
            if isinstance(run, Border) or moment in run.moments:
                continue
            back, left = turned_at(row, gaps, moment)
            ahead = [(each, pair) for each, pair in zip(run.moments, run.word) if Fraction(*each) < Fraction(*moment)]
            expected = sorted([(Fraction(*moment) - Fraction(*each), pair) for each, pair in ahead])
            clashes, border, _ = whole_run(back, left)
            met = [(each, pair) for each, pair, _ in clashes[: len(ahead)]]
            self.assertEqual(met, expected)
            checked += len(ahead)
            there = world_at(back, left, Fraction(*moment))
            if there is not None:
                self.assertEqual(there.speeds, [-speed for speed in fractions(row.speeds)])
                self.assertEqual(there.gaps(), fractions(gaps))
                standing = standing_at(back, left, moment)
                self.assertEqual(standing[1], row.turned().speeds)
                self.assertEqual(gaps_at(back, left, moment), told(fractions(gaps)))
        self.assertGreater(checked, 100)


class TrackTest(Case):
    def test_example_row(self):
        self.is_same(track_of(ROW, [1, 2], 0)[:2], (((0, 1), (0, 1), (1, 1)), ((1, 1), (1, 1), (1, 3))))
        self.is_same(len(track_of(ROW, [1, 2], 1)), 5)
        self.is_same(reach_of(ROW, [1, 2], 0), (None, (23, 19)))
        self.is_same(reach_of(ROW, [1, 2], 2), ((11, 7), None))

    def test_no_clash(self):
        row = Row([1, 1, 1], [-1, 0, 2])
        self.is_same([track_of(row, [1, 2], ball) for ball in (0, 1, 2)], [
            (((0, 1), (0, 1), (-1, 1)),),
            (((0, 1), (1, 1), (0, 1)),),
            (((0, 1), (3, 1), (2, 1)),),
        ])
        self.is_same([reach_of(row, [1, 2], ball) for ball in (0, 1, 2)], [
            (None, (0, 1)),
            ((1, 1), (1, 1)),
            ((3, 1), None),
        ])

    def test_wall(self):
        row = Row([1, 1], [0, -1], True)
        self.is_same(track_of(row, [2, 3], 0), (
            ((0, 1), (2, 1), (0, 1)),
            ((3, 1), (2, 1), (-1, 1)),
            ((5, 1), (0, 1), (1, 1)),
            ((7, 1), (2, 1), (0, 1)),
        ))
        self.is_same(reach_of(row, [2, 3], 0), ((0, 1), (2, 1)))
        self.is_same(track_of(row, [2, 3], 1), (
            ((0, 1), (5, 1), (-1, 1)),
            ((3, 1), (2, 1), (0, 1)),
            ((7, 1), (2, 1), (1, 1)),
        ))
        self.is_same(reach_of(row, [2, 3], 1), ((2, 1), None))

    def test_border(self):
        for ball in (0, 1, 2):
            for call in OF_BALL:
                self.assertEqual(call(ROW, [1, 1], ball), Border(1, (0, 1), ()))

    def test_against_the_rules(self):
        for row, gaps, _ in some_cases(94, 150):
            clashes, border, _ = whole_run(row, gaps)
            for ball in range(len(row)):
                track, reach = track_of(row, gaps, ball), reach_of(row, gaps, ball)
                if border:
                    self.assertEqual((track, reach), (run_of(row, gaps), run_of(row, gaps)))
                    continue
                moments = [Fraction(0)] + [moment for moment, pair, _ in clashes if ball in (pair, pair + 1)]
                self.assertEqual([corner[0] for corner in track], list(told(moments)))
                worlds = [world_at(row, gaps, moment) for moment in moments]
                self.assertEqual([corner[1] for corner in track], list(told(world.places[ball] for world in worlds)))
                self.assertEqual([corner[2] for corner in track], list(told(world.speeds[ball] for world in worlds)))
                places = [world.places[ball] for world in worlds]
                speed = worlds[-1].speeds[ball]
                self.is_same(reach, (
                    None if speed < 0 else as_told(min(places)),
                    None if speed > 0 else as_told(max(places)),
                ))


if __name__ == "__main__":
    unittest.main()
