"""[8.1] to [8.5] Partings of balls that stick."""

import unittest
from fractions import Fraction
from random import Random

from helping import NO_SEQUENCES, NO_WHOLES, Case, as_told
from oracle import StickWorld, fractions
from samples import stick_row, stick_rows

from untoldgaps.errors import NoBall, NoWall
from untoldgaps.rows import Row
from untoldgaps.sticking import Parting, joined_with, lost_sum, parting_fault, pooled_parting, speed_bounds

ROW = Row([1, 1, 1], [3, 0, 1])
APART = Row([1, 1, 1, 2], [1, 0, (1, 2), 4])
WALLED = Row([1, 1, 1], [3, 0, 1], True)


def mean_of(row, first, last):
    speeds = fractions(row.speeds)
    balls = range(first, last + 1)
    return sum(row.weights[k] * speeds[k] for k in balls) / sum(row.weights[k] for k in balls)


def contents(parting):
    return (parting.lots, parting.means)


def with_speed(row, ball, speed):
    return row.with_speeds(row.speeds[:ball] + (speed,) + row.speeds[ball + 1:])


def never_joins(row, pair):
    """Whether two balls end in unlike lots, by a run."""
    ends = StickWorld(row, [1] * row.gap_count).follow().ends()
    return not any(first <= pair < last for first, last in ends)


class PartingTest(Case):
    def test_example(self):
        self.is_same(contents(pooled_parting(ROW)), (((0, 2),), ((4, 3),)))
        told = pooled_parting(Row([1] * 3, [3, 0, 2]))
        self.is_same(contents(told), (((0, 1), (2, 2)), ((3, 2), (2, 1))))
        self.is_same(contents(pooled_parting(Row([1] * 3, [3, 2, 2]))), (((0, 2),), ((7, 3),)))
        self.is_same(contents(pooled_parting(Row([1] * 3, [1, 2, 2])))[0], ((0, 0), (1, 1), (2, 2)))

    def test_equal_means_stay_apart(self):
        self.is_same(contents(pooled_parting(Row([1] * 2, [1, 1]))), (((0, 0), (1, 1)), ((1, 1), (1, 1))))
        # The balls 1 and 2 end with the mean of ball 0, and with that of ball 3.
        self.is_same(
            contents(pooled_parting(Row([5, 1, 1, 3], [1, 2, 0, 1]))),
            (((0, 0), (1, 2), (3, 3)), ((1, 1), (1, 1), (1, 1))),
        )
        self.is_same(contents(pooled_parting(Row([1] * 4, [2, 0, 2, 0])))[0], ((0, 1), (2, 3)))

    def test_against_runs(self):
        chance = Random(431)
        lots = {}
        for row in stick_rows(432, 300, most=7):
            told = pooled_parting(row)
            self.assertIs(told.__class__, Parting)
            self.assertIs(told.lots.__class__, tuple)
            self.are_told(told.means)
            for size in (2, 60):
                gaps = [chance.randint(1, size) for _ in row.pairs]
                self.is_same(StickWorld(row, gaps).follow().ends(), told.lots)
            self.is_same(told.means, tuple([as_told(mean_of(row, *lot)) for lot in told.lots]))
            lots[len(told.lots)] = lots.get(len(told.lots), 0) + 1
        self.assertGreaterEqual(len(lots), 5)

    def test_many_balls(self):
        chance = Random(433)
        for count in (20, 39, 40):
            for size in (2, 50):
                speeds = [(chance.randint(-size, size) + ball // 4, chance.randint(1, 3)) for ball in range(count)]
                row = Row([chance.randint(1, 9) for _ in range(count)], speeds)
                told = pooled_parting(row)
                world = StickWorld(row, [chance.randint(1, 9) for _ in row.pairs]).follow()
                self.is_same(told.lots, world.ends())
                self.assertIsNone(parting_fault(row, told))
        self.is_same(pooled_parting(Row([1] * 40, list(range(40, 0, -1)))).lots, ((0, 39),))

    def test_the_two_conditions(self):
        for row in stick_rows(434, 100, most=6):
            told = pooled_parting(row)
            means = fractions(told.means)
            self.assertEqual(means, sorted(means))
            for first, last in told.lots:
                for ball in range(first, last):
                    self.assertGreater(mean_of(row, first, ball), mean_of(row, ball + 1, last))

    def test_great_numbers(self):
        row = Row([2, 9, 1], [(1, 10**200), (1, 10**200 + 1), -(10**200)])
        told = pooled_parting(row)
        self.is_same(told.lots, StickWorld(row, [1, 1]).follow().ends())
        self.is_same(told.means, tuple([as_told(mean_of(row, *lot)) for lot in told.lots]))

    def test_equality(self):
        told = Parting(((0, 1),), ((1, 1),))
        self.assertTrue(told == Parting(((0, 1),), ((1, 1),)))
        self.assertTrue(pooled_parting(ROW) == pooled_parting(Row([1] * 3, [3, 1, 0])))
        for other in (Parting(((0, 0),), ((1, 1),)), Parting(((0, 1),), ((2, 1),)), (((0, 1),), ((1, 1),)), None):
            self.assertFalse(told == other)
            self.assertTrue(told != other)

    def test_constructor_keeps_all(self):
        lots, means = [(0, 1)], None
        told = Parting(lots, means)
        self.assertIs(told.lots, lots)
        self.assertIs(told.means, means)


class FaultTest(Case):
    # APART ends in the lots (0, 1), (2, 2) and (3, 3).
    def fault(self, lots, means, row=APART):
        return parting_fault(row, Parting(lots, means))

    def test_right(self):
        for row in stick_rows(435, 150, most=6):
            told = pooled_parting(row)
            self.assertIsNone(parting_fault(row, told))
            self.assertIsNone(self.fault(told.lots, told.means, row))

    def test_lots(self):
        for lots in NO_SEQUENCES + (
            (),
            [(0, 3)],
            ([0, 3],),
            ((0, 3), ()),
            ((0,),),
            ((0, 1, 3),),
            ((0, True), (2, 3)),
            ((False, 3),),
            ((0, 1.0), (2, 3)),
            ((0, None),),
            ((1, 3),),
            ((0, 2),),
            ((0, 4),),
            ((0, 1), (3, 3)),
            ((0, 2), (2, 3)),
            ((0, 2), (1, 3)),
            ((0, 1), (2, 1), (2, 3)),
            ((0, -1), (0, 3)),
            ((2, 3), (0, 1)),
            ((0, 3), (4, 4)),
            ((0, 3), (4, 3)),
            ((0, 1), 7),
            (0, 3),
        ):
            self.is_same(self.fault(lots, None), "lots")
            self.is_same(self.fault(lots, pooled_parting(APART).means), "lots")
        self.is_same(self.fault(((0, 0), (1, 3)), None), "means")

    def test_means(self):
        lots, means = contents(pooled_parting(APART))
        self.is_same((lots, means), (((0, 1), (2, 2), (3, 3)), ((1, 2), (1, 2), (4, 1))))
        for thing in NO_SEQUENCES + (
            (),
            list(means),
            means[:2],
            means + ((9, 1),),
            ((1, 2), (1, 2), 4),
            ((1, 2), (2, 4), (4, 1)),
            ((1, 2), (1, 2), [4, 1]),
            ((True, 2), (1, 2), (4, 1)),
            ((1, 2), (1, 2), (4, True)),
            ((1, 2), (1, 3), (4, 1)),
            ((1, 2), (4, 1), (1, 2)),
            (None, None, None),
        ):
            self.is_same(self.fault(lots, thing), "means")
        # Ahead of means that fall, and of lots that do not hold together.
        self.is_same(self.fault(((0, 0), (1, 1), (2, 3)), None), "means")
        self.is_same(self.fault(((0, 3),), None), "means")

    def test_falls(self):
        self.is_same(self.fault(((0, 0), (1, 1), (2, 2), (3, 3)), ((1, 1), (0, 1), (1, 2), (4, 1))), "falls")
        # Also where a lot does not hold together.
        row = Row([1] * 4, [0, 1, 3, 0])
        self.is_same(self.fault(((0, 2), (3, 3)), ((4, 3), (0, 1)), row), "falls")

    def test_within(self):
        self.is_same(self.fault(((0, 3),), ((19, 10),)), "within")
        self.is_same(self.fault(((0, 1), (2, 3)), ((1, 2), (17, 6))), "within")
        # Parts of equal means do not hold together.
        self.is_same(self.fault(((0, 2), (3, 3)), ((1, 2), (4, 1))), "within")
        self.is_same(self.fault(((0, 1),), ((1, 1),), Row([1, 1], [1, 1])), "within")

    def test_all_partings(self):
        """Of all ways to part a row just one has no fault."""
        for row in stick_rows(436, 40, most=5):
            right = 0
            for mask in range(1 << row.gap_count):
                cuts = [pair for pair in row.pairs if mask >> pair & 1]
                lots = tuple(zip([0] + [pair + 1 for pair in cuts], cuts + [len(row) - 1]))
                means = tuple([as_told(mean_of(row, *lot)) for lot in lots])
                told = Parting(lots, means)
                fault = parting_fault(row, told)
                falls = any(Fraction(*one) > Fraction(*other) for one, other in zip(means, means[1:]))
                self.assertIn(fault, ("falls",) if falls else (None, "within"))
                self.assertEqual(fault is None, told == pooled_parting(row))
                right += fault is None
            self.assertEqual(right, 1)


class JoinedTest(Case):
    def test_joined_with(self):
        self.is_same([joined_with(APART, ball) for ball in range(4)], [(0, 1), (0, 1), (2, 2), (3, 3)])
        for row in stick_rows(437, 40):
            ends = StickWorld(row, [1] * row.gap_count).follow().ends()
            for ball in range(len(row)):
                self.is_same([joined_with(row, ball)], [lot for lot in ends if lot[0] <= ball <= lot[1]])

    def test_lost_sum(self):
        self.is_same(lost_sum(ROW), (14, 3))
        self.is_same(lost_sum(Row([1, 1], [1, 1])), (0, 1))
        self.is_same(lost_sum(Row([2, 1], [1, (1, 2)])), (1, 6))
        seen = {True: 0, False: 0}
        for row in stick_rows(438, 200):
            lots = StickWorld(row, [1] * row.gap_count).follow().ends()
            left = sum(sum(row.weights[a:b + 1]) * mean_of(row, a, b) ** 2 for a, b in lots)
            told = lost_sum(row)
            self.is_same(told, as_told(Fraction(*row.second_sum) - left))
            apart = all(a == b for a, b in lots)
            self.assertEqual(told == (0, 1), apart)
            self.assertGreaterEqual(told[0], 0)
            seen[apart] += 1
        self.assertGreater(min(seen.values()), 10)


class BoundsTest(Case):
    def test_example(self):
        # Ball 1 is slower than ball 0, so pair 0 joins whatever the speed of ball 2 is.
        self.is_same(speed_bounds(ROW, 2), (None, (3, 2)))

    def test_some(self):
        self.is_same(speed_bounds(ROW, 0), ((0, 1), (2, 1)))
        self.is_same(speed_bounds(ROW, 1), ((5, 1), (-1, 1)))
        self.is_same(speed_bounds(Row([2, 3], [7, 7]), 0), ((7, 1),))
        self.is_same(speed_bounds(Row([2, 3], [(1, 2), 7]), 1), ((1, 2),))
        self.is_same(speed_bounds(Row([1] * 3, [0, 2, 1]), 0), ((3, 2), None))
        self.is_same(speed_bounds(Row([1] * 3, [0, 1, 1]), 0), ((1, 1), (1, 1)))

    def test_each_bound(self):
        """With a speed on the bound, just beyond it and just short of it."""
        seen = {"most": 0, "least": 0, None: 0}
        for row in stick_rows(439, 120, most=6):
            for ball in range(len(row)):
                told = speed_bounds(row, ball)
                self.assertIs(told.__class__, tuple)
                self.assertEqual(len(told), row.gap_count)
                for pair, bound in enumerate(told):
                    if bound is None:
                        for speed in (-(10**6), -1, 0, (1, 2), 10**6):
                            self.assertFalse(never_joins(with_speed(row, ball, speed), pair))
                        seen[None] += 1
                        continue
                    self.is_told(bound)
                    for shift in (-(10**6), Fraction(-1, 1000), 0, Fraction(1, 1000), 10**6):
                        moved = with_speed(row, ball, as_told(Fraction(*bound) + shift))
                        apart = shift <= 0 if pair >= ball else shift >= 0
                        self.assertEqual(never_joins(moved, pair), apart)
                    seen["most" if pair >= ball else "least"] += 1
        self.assertGreater(min(seen.values()), 100)

    def test_own_speed_has_no_influence(self):
        chance = Random(440)
        for _ in range(60):
            row = stick_row(chance, 6)
            ball = chance.randrange(len(row))
            for speed in (-100, 0, (7, 3)):
                self.is_same(speed_bounds(with_speed(row, ball, speed), ball), speed_bounds(row, ball))

    def test_forty_balls(self):
        chance = Random(441)
        row = Row([chance.randint(1, 9) for _ in range(40)], [ball + chance.randint(-1, 1) for ball in range(40)])
        for ball in (0, 20, 39):
            told = speed_bounds(row, ball)
            for pair in (0, 18, 19, 20, 21, 38):
                if told[pair] is not None:
                    for shift in (Fraction(-1, 10**6), 0, Fraction(1, 10**6)):
                        moved = with_speed(row, ball, as_told(Fraction(*told[pair]) + shift))
                        apart = shift <= 0 if pair >= ball else shift >= 0
                        lots = pooled_parting(moved).lots
                        self.assertEqual(not any(first <= pair < last for first, last in lots), apart)


class ErrorsTest(Case):
    def test_walls_first(self):
        for row in (WALLED, Row([1], [0], True), Row([1] * 40, [0] * 40, True)):
            self.refused(NoWall, {}, pooled_parting, row)
            self.refused(NoWall, {}, lost_sum, row)
            self.refused(NoWall, {}, parting_fault, row, Parting(None, None))
            for ball in (0, 99, None):
                self.refused(NoWall, {}, joined_with, row, ball)
                self.refused(NoWall, {}, speed_bounds, row, ball)

    def test_balls(self):
        for thing in NO_WHOLES + (-1, 3):
            self.refused(NoBall, {"ball": thing}, joined_with, ROW, thing)
            self.refused(NoBall, {"ball": thing}, speed_bounds, ROW, thing)


if __name__ == "__main__":
    unittest.main()
