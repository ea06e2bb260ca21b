"""[7.7], [7.8] Begins of standings, and the fewest clashes of a pair."""

import unittest
from fractions import Fraction
from random import Random

from helping import NO_RATIOS, NO_SEQUENCES, NO_WHOLES, Case, as_told
from oracle import fractions, whole_run
from samples import gaps_of_many, some_row

from untoldgaps.begins import Begin, Fewest, begin_of, fewest_of_pair
from untoldgaps.errors import BadMoment, BadStanding, NoPair, NoWall, Unlike
from untoldgaps.likeballs import like_moments, like_standing
from untoldgaps.rows import Row
from untoldgaps.runs import Run, run_of

NO_WALLS = (None, 1, 0, "True", (True,), [], 1.0)
NO_MOMENTS = NO_RATIOS + (-1, (-1, 2))


def like_row(chance, most=6, wall=None, size=4):
    row = some_row(chance, wall, most=most, size=size, parts=chance.choice((1, 3)))
    return Row([chance.choice((1, 4, 9))] * len(row), row.speeds, row.wall)


def contents(begin):
    return (begin.place, begin.gaps, begin.speeds)


class BeginOfTest(Case):
    def test_example(self):
        told = begin_of([0, 0], [-1, 1], 2)
        self.is_same(contents(told), ((-2, 1), ((4, 1),), ((1, 1), (-1, 1))))

    def test_some(self):
        self.is_same(contents(begin_of((0, (2, 4)), (3, (0, 5)), 0)), ((0, 1), ((1, 2),), ((3, 1), (0, 1))))
        # Behind a wall ball 0 has turned at moment 1.
        self.is_same(contents(begin_of([1], [1], 2, True)), ((1, 1), ((1, 1),), ((-1, 1),)))
        self.is_same(contents(begin_of([1], [1], (1, 2), wall=True)), ((1, 2), ((1, 2),), ((1, 1),)))
        self.is_same(contents(begin_of([0], [2], 1, True)), ((2, 1), ((2, 1),), ((-2, 1),)))
        self.is_same(contents(begin_of([(-3, 2), 7], [1, 1], 5)), ((-13, 2), ((17, 2),), ((1, 1), (1, 1))))

    def test_no_begin(self):
        for args in (
            ([0, 0], [0, 1], 0),
            ([5, 5, 9], [0, 1, 3], 0),
            ([0, 2], [1, 2], 2),
            ([1, 2, 4], [0, 0, 1], 2),
            ([1], [1], 1, True),
            ([0], [1], 0, True),
            ([1, 3], [1, 3], 1, True),
            # The lines begin at 3, the first one of them turned by the wall.
            ([1, 5], [2, 1], 2, True),
        ):
            self.assertIsNone(begin_of(*args))
        self.is_same(contents(begin_of([1, 5], [2, 1], (5, 2), True)), ((5, 2), ((5, 2), (3, 2)), ((1, 1), (-2, 1))))

    def test_leads_back(self):
        """Standings of runs lead back to their begins, also at the moments of clashes."""
        chance = Random(411)
        clashes = 0
        for _ in range(250):
            row = like_row(chance)
            size = chance.choice((1, 9, 60))
            gaps = [as_told(Fraction(chance.randint(1, size), chance.randint(1, 2))) for _ in row.pairs]
            moments = [moment for moment, _ in like_moments(row, gaps)]
            clashes += len(moments)
            for moment in moments + [0, (1, 3), 5, (chance.randint(0, 99), 7), 1000]:
                places, speeds = like_standing(row, gaps, moment)
                begin = begin_of(list(places), speeds, moment, row.wall)
                self.assertIs(begin.__class__, Begin)
                self.is_same(begin.gaps, tuple(gaps))
                self.is_same(begin.speeds, row.speeds)
                self.is_same(begin.place, gaps[0] if row.wall else (0, 1))
        self.assertGreater(clashes, 500)

    def test_gives_the_standing_back(self):
        chance = Random(412)
        seen = {True: 0, False: 0}
        for _ in range(400):
            wall = chance.random() < 0.5
            count = chance.randint(1 if wall else 2, 5)
            stands = {(chance.randint(0 if wall else -4, 4), chance.randint(-3, 3)) for _ in range(count)}
            stands = sorted(each for each in stands if not wall or each[0] > 0 or each[1] > 0)
            if len(stands) < (1 if wall else 2):
                continue
            places, speeds = [place for place, _ in stands], [speed for _, speed in stands]
            moment = (chance.randint(0, 6), chance.randint(1, 2))
            begin = begin_of(places, speeds, moment, wall)
            seen[begin is None] += 1
            starts = [place - speed * Fraction(*moment) for place, speed in stands]
            ends = {abs(start) for start in starts} | {0} if wall else set(starts)
            self.assertEqual(begin is None, len(ends) < len(starts) + wall)
            if begin is not None:
                row = Row([2] * len(places), begin.speeds, wall)
                again, paces = like_standing(row, begin.gaps, moment)
                moved = Fraction(0) if wall else Fraction(*begin.place)
                self.assertEqual([place + moved for place in fractions(again)], places)
                self.assertEqual(fractions(paces), speeds)
                if wall:
                    self.is_same(begin.place, begin.gaps[0])
        self.assertGreater(min(seen.values()), 50)

    def test_forty_balls(self):
        for wall in (False, True):
            row = Row([1] * 40, [-speed for speed in range(1, 41)], wall)
            gaps = gaps_of_many(row)
            for moment in (5, 100, (10**200 + 1, 7)):
                places, speeds = like_standing(row, gaps, moment)
                begin = begin_of(places, speeds, moment, wall)
                self.assertEqual(fractions(begin.gaps), fractions(gaps))
                self.is_same(begin.speeds, row.speeds)

    def test_what_is_passed_stays(self):
        places, speeds = [0, (2, 4)], [(4, 2), 1]
        begin_of(places, speeds, 1)
        self.is_same([places, speeds], [[0, (2, 4)], [(4, 2), 1]])


class StandingErrorsTest(Case):
    def bad(self, what, *args, **more):
        self.refused(BadStanding, {"what": what}, begin_of, *args, **more)

    def test_wall(self):
        for thing in NO_WALLS:
            self.bad("wall", [0, 1], [0, 1], 1, thing)
            self.bad("wall", None, None, None, wall=thing)

    def test_length(self):
        for thing in NO_SEQUENCES + ([], (), [0], [0] * 41):
            self.bad("length", thing, [0, 1], 1)
            self.bad("length", thing, None, -1)
        for thing in NO_SEQUENCES + ([], [0], [0, 1, 2]):
            self.bad("length", [0, 1], thing, 1)
            self.bad("length", [True, None], thing, -1)
        for thing in NO_SEQUENCES + ([], [1] * 41):
            self.bad("length", thing, [1], 1, True)
        for count, wall in ((0, False), (1, False), (41, False), (0, True), (41, True)):
            self.bad("length", list(range(1, count + 1)), [0] * count, 1, wall)
        begin_of([1], [1], 0, True)
        begin_of(list(range(40)), [0] * 40, 0)
        begin_of(list(range(1, 41)), [0] * 40, 0, True)

    def test_ball_by_ball(self):
        for thing in NO_RATIOS:
            self.bad("place", [thing, None], [None, None], -1)
            self.bad("place", [0, thing], [0, None], -1)
            self.bad("speed", [0, None], [thing, 0], -1)
            self.bad("speed", [0, -1], [0, thing], -1)
        for thing in (-1, (-1, 2)):
            self.bad("place", [thing, 1], [None, 1], 1, True)
            self.bad("place", [2, thing], [1, 1], 1, True)
            self.bad("speed", [2, thing], [None, 1], 1, True)
            begin_of([thing, 1], [0, 1], 1)

    def test_order(self):
        for places, speeds in (
            ([1, 0], [0, 1]),
            ([0, 3, 2], [0, 0, 0]),
            ([(1, 2), (1, 3)], [0, 1]),
            ([0, 0], [1, 0]),
            ([0, (0, 3)], [(1, 2), (2, 4)]),
            ([0, 2, 2], [5, 1, 1]),
        ):
            self.bad("order", places, speeds, -1)
        for places, speeds in (([0], [0]), ([0], [-1]), ([0, 1], [-1, 3]), ([0, 0], [0, 1]), ([3, 1], [1, 1])):
            self.bad("order", places, speeds, None, True)
        begin_of([0, 0], [1, 2], 1, True)
        begin_of([0, 0], [-1, 0], 1)

    def test_moment_last(self):
        for thing in NO_MOMENTS:
            self.refused(BadMoment, {"moment": thing}, begin_of, [0, 1], [0, 1], thing)
            self.refused(BadMoment, {"moment": thing}, begin_of, [1], [1], thing, True)
            self.bad("order", [1, 0], [0, 1], thing)


class FewestTest(Case):
    def rule(self, row, pair):
        speeds = fractions(row.speeds)
        order = sorted(range(len(row)), key=lambda line: (speeds[line], line))
        return len([line for line in range(pair + 1) if order.index(line) > pair])

    def test_example(self):
        told = fewest_of_pair(Row((1, 1, 1), (2, 1, 0)), 0)
        self.assertEqual(told.many, 1)

    def test_some(self):
        row = Row([1] * 4, [3, 2, 1, 0])
        self.is_same([fewest_of_pair(row, pair).many for pair in range(3)], [1, 2, 1])
        row = Row([1] * 4, [1, 1, 1, 1])
        self.is_same([fewest_of_pair(row, pair).many for pair in range(3)], [0, 0, 0])
        row = Row([5] * 4, [1, 0, 3, 2])
        self.is_same([fewest_of_pair(row, pair).many for pair in range(3)], [1, 0, 1])
        # Lines of equal speeds keep their order.
        row = Row([5] * 3, [1, 0, 1])
        self.is_same([fewest_of_pair(row, pair).many for pair in range(2)], [1, 0])

    def test_told_gaps(self):
        chance = Random(413)
        levels = 0
        for _ in range(150):
            row = like_row(chance, 8, False, chance.choice((1, 4)))
            for pair in row.pairs:
                told = fewest_of_pair(row, pair)
                self.assertIs(told.__class__, Fewest)
                self.is_same(told.many, self.rule(row, pair))
                self.are_told(told.gaps)
                clashes, border, _ = whole_run(row, told.gaps)
                self.assertIsNone(border)
                self.assertEqual([each for _, each, _ in clashes].count(pair), told.many)
                levels += len(clashes)
        self.assertGreater(levels, 1000)

    def test_no_run_has_fewer(self):
        chance = Random(414)
        reached = 0
        for _ in range(60):
            row = like_row(chance, 4, False, chance.choice((1, 3)))
            least = {}
            for gaps in ([a, b, c][:row.gap_count] for a in (1, 4, 30) for b in (2, 7, 50) for c in (1, 9, 80)):
                clashes, border, _ = whole_run(row, gaps)
                if border is None:
                    word = [pair for _, pair, _ in clashes]
                    for pair in row.pairs:
                        least[pair] = min(word.count(pair), least.get(pair, 99))
            for pair, many in least.items():
                self.assertGreaterEqual(many, fewest_of_pair(row, pair).many)
                reached += many == fewest_of_pair(row, pair).many
        self.assertGreater(reached, 60)

    def test_forty_balls(self):
        chance = Random(415)
        for speeds in (range(40, 0, -1), [chance.randint(-9, 9) for _ in range(40)]):
            row = Row([3] * 40, list(speeds))
            for pair in (0, 17, 19, 38):
                told = fewest_of_pair(row, pair)
                self.is_same(told.many, self.rule(row, pair))
                run = run_of(row, told.gaps)
                self.assertIs(run.__class__, Run)
                self.assertEqual(run.word.count(pair), told.many)

    def test_great_numbers(self):
        row = Row([1] * 4, [(10**150, 3), (10**150 + 1, 3), 0, (-1, 10**150)])
        for pair in row.pairs:
            told = fewest_of_pair(row, pair)
            run = run_of(row, told.gaps)
            self.assertIs(run.__class__, Run)
            self.assertEqual(run.word.count(pair), self.rule(row, pair))

    def test_errors(self):
        row = Row([1] * 3, [2, 1, 0])
        for thing in NO_WHOLES + (-1, 2):
            self.refused(NoPair, {"pair": thing}, fewest_of_pair, row, thing)
            self.refused(NoWall, {}, fewest_of_pair, Row([1] * 3, [2, 1, 0], True), thing)
            self.refused(Unlike, {}, fewest_of_pair, Row([1, 2], [1, 0]), thing)
            self.refused(Unlike, {}, fewest_of_pair, Row([1, 2], [1, 0], True), thing)
        self.refused(NoWall, {}, fewest_of_pair, Row([1] * 3, [2, 1, 0], True), -1)


class ResultsTest(Case):
    def test_begin_is_told(self):
        told = Begin((2, 4), [(2, 2), 3], [0, (-4, 2)])
        self.is_same(contents(told), ((1, 2), ((1, 1), (3, 1)), ((0, 1), (-2, 1))))
        gaps = [1]
        told = Begin(0, gaps, ())
        gaps.append(2)
        self.is_same(contents(told), ((0, 1), ((1, 1),), ()))

    def test_begins_equal(self):
        told = Begin(1, [2], [3, 4])
        self.assertTrue(told == Begin((2, 2), ((4, 2),), ((3, 1), 4)))
        for other in (Begin(2, [2], [3, 4]), Begin(1, [3], [3, 4]), Begin(1, [2], [3, 5]), ((1, 1),), None):
            self.assertFalse(told == other)
            self.assertTrue(told != other)

    def test_fewest(self):
        gaps = ((1, 1),)
        told = Fewest(2, gaps)
        self.assertIs(told.gaps, gaps)
        self.assertEqual(told.many, 2)
        self.assertTrue(told == Fewest(2, ((1, 1),)))
        for other in (Fewest(1, gaps), Fewest(2, ((2, 1),)), (2, gaps), None):
            self.assertFalse(told == other)
            self.assertTrue(told != other)


if __name__ == "__main__":
    unittest.main()
