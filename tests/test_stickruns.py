"""[8.6], [8.7] Sticking runs and the forms of their joinings."""

import unittest
from fractions import Fraction
from random import Random

from helping import NO_RATIOS, NO_SEQUENCES, NO_WHOLES, Case, as_told
from oracle import StickWorld, fractions
from samples import stick_rows

from untoldgaps.errors import BadGaps, BadMoment, NoPair, NoWall
from untoldgaps.forms import value_of
from untoldgaps.rows import Row
from untoldgaps.sticking import Parting, pooled_parting
from untoldgaps.stickruns import Sticking, join_forms, join_moments, stick_run, stick_standing

ROW = Row([1, 1, 1], [3, 0, 1])
WALLED = Row([1, 1, 1], [3, 0, 1], True)
NO_MOMENTS = NO_RATIOS + (-1, (-1, 2))


def some_cases(number, count, most=6):
    """Rows with gaps; those of few sizes bring joinings at one moment."""
    chance = Random(number)
    for row in stick_rows(number + 1, count, most=most):
        size = chance.choice((1, 2, 60))
        yield row, [(chance.randint(1, size), chance.randint(1, 2)) for _ in row.pairs]


def told_joinings(world):
    return tuple([(as_told(moment), tuple(lots)) for moment, lots in world.joinings])


class RunTest(Case):
    def test_example(self):
        told = stick_run(ROW, [1, 1])
        self.is_same(told.joinings, (((1, 3), ((0, 1),)), ((3, 1), ((0, 2),))))
        self.is_same((told.parting.lots, told.parting.means), (((0, 2),), ((4, 3),)))
        # Pair 0 joins at a third of gap 0, pair 1 at gap 0 and twice gap 1.
        self.is_same(join_moments(ROW, [1, 1]), ((1, 3), (3, 1)))
        self.is_same(join_moments(ROW, [(3, 5), 7]), ((1, 5), (73, 5)))

    def test_several_lots_at_one_moment(self):
        row = Row([1] * 5, [1, 0, 2, 3, 2])
        told = stick_run(row, [1, 1, 1, 1])
        self.is_same(told.joinings, (((1, 1), ((0, 1), (3, 4))),))
        self.is_same(told.parting.lots, ((0, 1), (2, 2), (3, 4)))
        self.is_same(join_moments(row, [1, 1, 1, 1]), ((1, 1), None, None, (1, 1)))

    def test_three_balls_at_one_place(self):
        row = Row([1, 2, 1, 1], [1, 0, -1, -2])
        told = stick_run(row, [1, 1, 1])
        self.is_same(told.joinings, (((1, 1), ((0, 3),)),))
        self.is_same(told.parting.means, ((-2, 5),))
        self.is_same(join_moments(row, [1, 1, 1]), ((1, 1),) * 3)
        told = stick_run(row, [1, 1, 2])
        self.is_same([lots for _, lots in told.joinings], [((0, 2),), ((0, 3),)])

    def test_nothing_joins(self):
        for row in (Row([1, 2], [0, 0]), Row([1, 2, 3], [0, (1, 2), 1])):
            told = stick_run(row, [1] * row.gap_count)
            self.is_same(told.joinings, ())
            self.is_same(told.parting.lots, tuple([(ball, ball) for ball in range(len(row))]))
            self.is_same(told.parting.means, row.speeds)
            self.is_same(join_moments(row, [1] * row.gap_count), (None,) * row.gap_count)

    def test_against_the_rule(self):
        at_once = {"lots": 0, "balls": 0}
        for row, gaps in some_cases(451, 600):
            world = StickWorld(row, gaps).follow()
            told = stick_run(row, gaps)
            self.assertIs(told.__class__, Sticking)
            self.is_same(told.joinings, told_joinings(world))
            self.assertIs(told.parting.__class__, Parting)
            self.assertTrue(told.parting == pooled_parting(row))
            self.is_same((told.parting.lots, told.parting.means),
                         (pooled_parting(row).lots, pooled_parting(row).means))
            moments = [None if moment is None else as_told(moment) for moment in world.join_moments()]
            self.is_same(join_moments(row, gaps), tuple(moments))
            told_moments = [moment for moment, _ in told.joinings]
            self.assertEqual(fractions(told_moments), sorted(set(fractions(told_moments))))
            at_once["lots"] += any(len(lots) > 1 for _, lots in told.joinings)
            at_once["balls"] += len([1 for moment in set(moments) - {None} if moments.count(moment) > 1])
        self.assertGreater(min(at_once.values()), 10)

    def test_forty_balls(self):
        chance = Random(453)
        for speeds in (range(40, 0, -1), [chance.randint(-9, 9) + ball // 4 for ball in range(40)]):
            row = Row([chance.randint(1, 9) for _ in range(40)], list(speeds))
            gaps = [(chance.randint(1, 99), chance.randint(1, 9)) for _ in row.pairs]
            told = stick_run(row, gaps)
            self.is_same(told.joinings, told_joinings(StickWorld(row, gaps).follow()))
            self.assertTrue(told.parting == pooled_parting(row))

    def test_constructor_keeps_all(self):
        joinings, parting = [1], None
        told = Sticking(joinings, parting)
        self.assertIs(told.joinings, joinings)
        self.assertIs(told.parting, parting)
        self.assertFalse(Sticking((), None) == Sticking((), None))


class StandingTest(Case):
    def test_some(self):
        self.is_same(stick_standing(ROW, [1, 1], 0), (((0, 1), (1, 1), (2, 1)), ((3, 1), (0, 1), (1, 1))))
        # At a third the balls 0 and 1 join.
        self.is_same(stick_standing(ROW, [1, 1], (1, 6)), (((1, 2), (1, 1), (13, 6)), ((3, 1), (0, 1), (1, 1))))
        self.is_same(stick_standing(ROW, [1, 1], (1, 3)), (((1, 1), (1, 1), (7, 3)), ((3, 2), (3, 2), (1, 1))))
        self.is_same(stick_standing(ROW, [1, 1], 3), (((5, 1),) * 3, ((4, 3),) * 3))
        self.is_same(stick_standing(ROW, [1, 1], (18, 4)), (((7, 1),) * 3, ((4, 3),) * 3))

    def test_against_the_rule(self):
        for row, gaps in some_cases(454, 150):
            joinings = [moment for moment, _ in StickWorld(row, gaps).follow().joinings]
            between = [(one + other) / 2 for one, other in zip([Fraction(0)] + joinings, joinings)]
            for moment in joinings + between + [Fraction(0), Fraction(1, 7), Fraction(10**30, 3)]:
                world = StickWorld(row, gaps).follow(moment)
                speeds = [world.mean(lot) for lot in world.lots for _ in lot]
                expected = (tuple(as_told(place) for place in world.places), tuple(as_told(speed) for speed in speeds))
                self.is_same(stick_standing(row, gaps, as_told(moment)), expected)

    def test_what_is_passed_stays(self):
        gaps = [1, (2, 4)]
        stick_run(ROW, gaps)
        stick_standing(ROW, gaps, (2, 4))
        self.is_same(gaps, [1, (2, 4)])


def rule_forms(row, pair):
    """The forms of [8.7] told a second time: sums over all lots around the pair."""
    speeds = fractions(row.speeds)
    weights = row.weights
    told = []
    for first in range(pair + 1):
        for last in range(pair + 1, len(row)):
            left, right = range(first, pair + 1), range(pair + 1, last + 1)
            lefts, rights = sum(weights[k] for k in left), sum(weights[k] for k in right)
            apart = sum(weights[k] * speeds[k] for k in left) / lefts
            apart -= sum(weights[k] * speeds[k] for k in right) / rights
            if apart > 0:
                form = []
                for gap in row.pairs:
                    share = Fraction(gap == pair)
                    if first <= gap < pair:
                        share = Fraction(sum(weights[first:gap + 1]), lefts)
                    if pair < gap < last:
                        share = Fraction(sum(weights[gap + 1:last + 1]), rights)
                    form.append(as_told(share / apart))
                told.append(((first, last), tuple(form)))
    return tuple(told)


class FormsTest(Case):
    def test_example(self):
        self.is_same(join_forms(ROW, 1), (((0, 2), ((1, 1), (2, 1))),))
        self.is_same(join_forms(ROW, 0), (((0, 1), ((1, 3), (0, 1))), ((0, 2), ((2, 5), (1, 5)))))

    def test_never_joins(self):
        self.is_same(join_forms(Row([1, 2], [0, 0]), 0), ())
        self.is_same(join_forms(Row([1, 2, 1], [0, 1, 5]), 1), ())
        self.is_same(join_forms(Row([1] * 4, [2, 0, 2, 0]), 1), ())

    def test_weights(self):
        row = Row([2, 1, 3, 4], [9, 7, 1, 0])
        told = dict(join_forms(row, 1))
        self.assertEqual(list(told), [(0, 2), (0, 3), (1, 2), (1, 3)])
        # Means 25/3 of the balls 0 and 1, 3/7 of the balls 2 and 3.
        apart = Fraction(25, 3) - Fraction(3, 7)
        self.is_same(told[0, 3], tuple([as_told(share / apart) for share in (Fraction(2, 3), 1, Fraction(4, 7))]))

    def test_against_the_rule(self):
        for row in stick_rows(455, 120, most=7):
            for pair in row.pairs:
                self.is_same(join_forms(row, pair), rule_forms(row, pair))

    def test_least_value(self):
        """A pair joins at the least value of its forms, also where lots come together at one moment."""
        seen = {True: 0, False: 0}
        for row, gaps in some_cases(456, 300):
            moments = StickWorld(row, gaps).follow().join_moments()
            for pair in row.pairs:
                values = [Fraction(*value_of(form, gaps)) for _, form in join_forms(row, pair)]
                self.assertEqual(min(values) if values else None, moments[pair])
                seen[len(values) > 0] += 1
        self.assertGreater(min(seen.values()), 100)

    def test_middles_come_together(self):
        """The value is the moment at which the middles would meet if every ball went on alone."""
        for row, gaps in some_cases(457, 40, 5):
            places = [sum(fractions(gaps)[:ball]) for ball in range(len(row))]
            speeds = fractions(row.speeds)
            for pair in row.pairs:
                for (first, last), form in join_forms(row, pair):
                    moment = Fraction(*value_of(form, gaps))
                    middles = []
                    for a, b in ((first, pair), (pair + 1, last)):
                        balls = range(a, b + 1)
                        drive = sum(row.weights[k] * (places[k] + speeds[k] * moment) for k in balls)
                        middles.append(drive / sum(row.weights[k] for k in balls))
                    self.assertEqual(middles[0], middles[1])

    def test_forty_balls(self):
        chance = Random(458)
        row = Row([chance.randint(1, 9) for _ in range(40)], [chance.randint(-9, 9) for _ in range(40)])
        gaps = [chance.randint(1, 99) for _ in row.pairs]
        moments = join_moments(row, gaps)
        for pair in (0, 19, 38):
            forms = join_forms(row, pair)
            self.is_same(forms, rule_forms(row, pair))
            values = [Fraction(*value_of(form, gaps)) for _, form in forms]
            self.assertEqual(as_told(min(values)) if values else None, moments[pair])


class ErrorsTest(Case):
    def test_walls_first(self):
        for gaps in (None, [0, 1], [1, 1, 1]):
            self.refused(NoWall, {}, stick_run, WALLED, gaps)
            self.refused(NoWall, {}, join_moments, WALLED, gaps)
            self.refused(NoWall, {}, stick_standing, WALLED, gaps, -1)
        for pair in (-1, 0, None, 99):
            self.refused(NoWall, {}, join_forms, WALLED, pair)

    def test_gaps_ahead_of_moments(self):
        bad = [("length", thing) for thing in NO_SEQUENCES + ([], [1], [1, 2, 3])]
        bad += [("gap", [1, thing]) for thing in NO_RATIOS + (0, -1, (0, 1))]
        for what, gaps in bad:
            self.refused(BadGaps, {"what": what}, stick_run, ROW, gaps)
            self.refused(BadGaps, {"what": what}, join_moments, ROW, gaps)
            self.refused(BadGaps, {"what": what}, stick_standing, ROW, gaps, -1)
        for thing in NO_MOMENTS:
            self.refused(BadMoment, {"moment": thing}, stick_standing, ROW, [1, 1], thing)

    def test_pairs(self):
        for thing in NO_WHOLES + (-1, 2):
            self.refused(NoPair, {"pair": thing}, join_forms, ROW, thing)


if __name__ == "__main__":
    unittest.main()
