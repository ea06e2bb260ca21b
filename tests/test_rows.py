"""[1.4], [1.5], [1.6], [1.7] Rows of balls and the checks with them; [0.4], [0.5] of them."""

import unittest

from helping import NO_RATIOS, NO_SEQUENCES, NO_WHOLES, Case

from untoldgaps.errors import BadGaps, BadMoment, BadRatio, BadRow, NoBall, NoHurry, NoMirror, Wide
from untoldgaps.rows import (
    MOST_BALLS,
    MOST_WEIGHT,
    Row,
    check_ball,
    check_gaps,
    check_moment,
    check_narrow,
)


def contents(row):
    return (row.weights, row.speeds, row.wall)


class MakingTest(Case):
    def bad(self, index, what, *args, **more):
        self.refused(BadRow, {"index": index, "what": what}, Row, *args, **more)

    def test_limits(self):
        self.is_same((MOST_BALLS, MOST_WEIGHT), (40, 9))

    def test_attributes(self):
        row = Row([2, 1], [(2, 4), -1], wall=True)
        self.is_same(row.weights, (2, 1))
        self.is_same(row.speeds, ((1, 2), (-1, 1)))
        self.is_same(row.wall, True)
        self.is_same(row.pairs, (-1, 0))
        self.is_same(row.gap_count, 2)
        self.is_same(row.is_like, False)
        self.is_same(row.first_sum, (0, 1))
        self.is_same(row.second_sum, (3, 2))
        self.is_same(len(row), 2)

    def test_attributes_without_a_wall(self):
        row = Row((3, 3, 3), (1, (-1, 3), 10**30))
        self.is_same(row.pairs, (0, 1))
        self.is_same(row.gap_count, 2)
        self.is_same(row.wall, False)
        self.is_same(row.is_like, True)
        self.is_same(row.first_sum, (3 * 10**30 + 2, 1))
        self.is_same(row.second_sum, (9 * 10**60 + 10, 3))

    def test_few_and_many_balls(self):
        one = Row([4], [(-3, 2)], True)
        self.is_same((one.pairs, one.gap_count, len(one), one.is_like), ((-1,), 1, 1, True))
        self.is_same((one.first_sum, one.second_sum), ((-6, 1), (9, 1)))
        self.is_same(Row([4, 5], [0, 0]).pairs, (0,))
        self.is_same(Row([1] * 40, [0] * 40).gap_count, 39)
        self.is_same(Row([1] * 40, [0] * 40, True).pairs, tuple(range(-1, 39)))
        for wall in (True, False):
            self.bad(0, "many", [1] * 41, [0] * 41, wall)
            self.bad(0, "many", [], [], wall)
        self.bad(0, "many", [4], [0])
        self.bad(0, "many", [4], [0], False)

    def test_wall(self):
        for wall in (1, 0, None, "wall", (), [True], 2):
            self.bad(0, "wall", [1, 1], [0, 0], wall)
            self.bad(0, "wall", None, None, wall)

    def test_no_sequences(self):
        for thing in NO_SEQUENCES:
            self.bad(0, "many", thing, [0, 0])
            self.bad(0, "length", [1, 1], thing)
            self.bad(0, "many", thing, thing)

    def test_length(self):
        self.bad(0, "length", [1, 1], [0])
        self.bad(0, "length", [1, 1], [0, 0, 0])
        self.bad(0, "length", [0, 0], [])
        self.bad(0, "length", [1], [0, 0], True)

    def test_weights(self):
        for thing in NO_WHOLES + (0, -1, 10, 10**40):
            self.bad(0, "weight", [thing, 1], [0, 0])
            self.bad(2, "weight", [1, 9, thing], [0, 0, 0])

    def test_speeds(self):
        for thing in NO_RATIOS:
            self.bad(0, "speed", [1, 1], [thing, 0])
            self.bad(1, "speed", [1, 1], [0, thing])

    def test_ball_by_ball(self):
        self.bad(0, "speed", [1, 10], [None, None])
        self.bad(0, "weight", [10, 10], [None, None])
        self.bad(1, "weight", [1, 10], [0, None])
        self.bad(1, "speed", [1, 1, 0], [0, None, 0])

    def test_lists_and_tuples(self):
        weights = [2, 1]
        speeds = [(2, 4), 3]
        row = Row(weights, speeds)
        self.assertEqual(row, Row((2, 1), ((1, 2), (3, 1))))
        weights[0] = 7
        speeds.append(1)
        self.is_same(contents(row), ((2, 1), ((1, 2), (3, 1)), False))

    def test_what_is_passed_stays(self):
        weights = [2, 1]
        speeds = [(2, 4), 3]
        Row(weights, speeds)
        self.is_same((weights, speeds), ([2, 1], [(2, 4), 3]))

    def test_equality(self):
        row = Row([2, 1], [1, 0])
        self.assertTrue(row == Row((2, 1), ((3, 3), (0, 2)), wall=False))
        self.assertFalse(row != Row([2, 1], [1, 0]))
        for other in (
            Row([2, 1], [1, 0], True),
            Row([2, 2], [1, 0]),
            Row([2, 1], [1, 1]),
            Row([2, 1, 1], [1, 0, 0]),
            (2, 1),
            None,
            ((2, 1), (1, 0), False),
        ):
            self.assertFalse(row == other)
            self.assertTrue(row != other)


class NewRowsTest(Case):
    def test_with_speeds(self):
        for wall in (False, True):
            row = Row([2, 1], [1, 0], wall)
            told = row.with_speeds([(2, 6), -5])
            self.is_same(contents(told), ((2, 1), ((1, 3), (-5, 1)), wall))
            self.is_same(contents(row), ((2, 1), ((1, 1), (0, 1)), wall))

    def test_with_speeds_refused(self):
        row = Row([2, 1], [1, 0])
        for thing in NO_SEQUENCES + ([], [1], [1, 2, 3]):
            self.refused(BadRow, {"index": 0, "what": "length"}, row.with_speeds, thing)
        for thing in NO_RATIOS:
            self.refused(BadRow, {"index": 1, "what": "speed"}, row.with_speeds, [0, thing])

    def test_turned(self):
        for wall in (False, True):
            row = Row([2, 1, 5], [(1, 2), 0, -3], wall)
            self.is_same(contents(row.turned()), ((2, 1, 5), ((-1, 2), (0, 1), (3, 1)), wall))
            self.assertEqual(row.turned().turned(), row)

    def test_quicker(self):
        for wall in (False, True):
            row = Row([2, 1], [(1, 2), -3], wall)
            self.is_same(contents(row.quicker((4, 6))), ((2, 1), ((1, 3), (-2, 1)), wall))
            self.is_same(row.quicker(0).speeds, ((0, 1), (0, 1)))
            self.is_same(row.quicker(-2).speeds, ((-1, 1), (6, 1)))
            for thing in NO_RATIOS:
                self.refused(BadRatio, {}, row.quicker, thing)

    def test_mirrored(self):
        row = Row([2, 1, 5], [(1, 2), 0, -3])
        self.is_same(contents(row.mirrored()), ((5, 1, 2), ((3, 1), (0, 1), (-1, 2)), False))
        self.assertEqual(row.mirrored().mirrored(), row)
        self.refused(NoMirror, {}, Row([2, 1], [0, 0], True).mirrored)

    def test_hurried(self):
        row = Row([2, 1], [(1, 2), -3])
        self.is_same(contents(row.hurried((-1, 2))), ((2, 1), ((0, 1), (-7, 2)), False))
        self.is_same(row.hurried(0).speeds, row.speeds)
        for thing in NO_RATIOS:
            self.refused(BadRatio, {}, row.hurried, thing)
            self.refused(NoHurry, {}, Row([2, 1], [0, 0], True).hurried, thing)
        self.refused(NoHurry, {}, Row([2], [0], True).hurried, 1)
        self.refused(NoHurry, {}, Row([2], [0], True).hurried, 0)

    def test_heavier(self):
        for wall in (False, True):
            row = Row([2, 4], [(1, 2), -3], wall)
            self.is_same(contents(row.heavier((3, 2))), ((3, 6), ((1, 2), (-3, 1)), wall))
            self.is_same(row.heavier((1, 2)).weights, (1, 2))
        for thing in NO_RATIOS:
            self.refused(BadRatio, {}, row.heavier, thing)

    def test_heavier_refused(self):
        row = Row([2, 3, 4], [0, 0, 0])
        for index, factor in ((1, (1, 2)), (2, 3), (1, 4), (0, 5), (0, 0), (0, -1), (0, (1, 4)), (1, (7, 2))):
            self.refused(BadRow, {"index": index, "what": "weight"}, row.heavier, factor)
        # The first weight grows too great, the second one is not whole: the first one counts.
        self.refused(BadRow, {"index": 0, "what": "weight"}, Row([8, 1], [0, 0]).heavier, (3, 2))


class ChecksTest(Case):
    def test_gaps(self):
        row = Row([1, 1, 1], [0, 0, 0])
        self.is_same(check_gaps(row, [1, (4, 6)]), ((1, 1), (2, 3)))
        self.is_same(check_gaps(row, ((10**40, 10**40), (1, 10**50))), ((1, 1), (1, 10**50)))
        self.is_same(check_gaps(Row([1], [0], True), [3]), ((3, 1),))

    def test_gaps_refused(self):
        row = Row([1, 1], [0, 0], True)
        for thing in NO_SEQUENCES + ([], [1], [1, 2, 3], (None,)):
            self.refused(BadGaps, {"what": "length"}, check_gaps, row, thing)
        for thing in NO_RATIOS + (0, -1, (0, 1), (-1, 2)):
            self.refused(BadGaps, {"what": "gap"}, check_gaps, row, [thing, 1])
            self.refused(BadGaps, {"what": "gap"}, check_gaps, row, (1, thing))

    def test_gaps_stay(self):
        gaps = [(2, 4), 3]
        told = check_gaps(Row([1, 1], [0, 0], True), gaps)
        self.is_same(gaps, [(2, 4), 3])
        gaps[0] = 9
        self.is_same(told, ((1, 2), (3, 1)))

    def test_moment(self):
        self.is_same(check_moment(0), (0, 1))
        self.is_same(check_moment((0, 3)), (0, 1))
        self.is_same(check_moment((6, 4)), (3, 2))
        self.is_same(check_moment(10**70), (10**70, 1))
        for thing in NO_RATIOS + (-1, (-1, 10**40)):
            self.refused(BadMoment, {"moment": thing}, check_moment, thing)

    def test_ball(self):
        row = Row([1, 1, 1], [0, 0, 0])
        for ball in (0, 1, 2):
            self.is_same(check_ball(row, ball), ball)
        for thing in NO_WHOLES + (-1, 3, 10**30):
            self.refused(NoBall, {"ball": thing}, check_ball, row, thing)
        self.is_same(check_ball(Row([1], [0], True), 0), 0)
        self.refused(NoBall, {"ball": 1}, check_ball, Row([1], [0], True), 1)

    def test_narrow(self):
        for count, wall in ((2, False), (4, False), (1, True), (3, True)):
            self.assertIsNone(check_narrow(Row([1] * count, [0] * count, wall)))
        for count, wall in ((5, False), (40, False), (4, True), (40, True)):
            self.refused(Wide, {}, check_narrow, Row([1] * count, [0] * count, wall))

    def test_example(self):
        self.refused(BadRow, {"index": 1, "what": "weight"}, Row, [1, 10], [0, None])
        row = Row([2, 1], [(1, 2), -1], wall=True)
        self.is_same(
            [row.pairs, row.gap_count, row.first_sum, row.second_sum, row.is_like, len(row)],
            [(-1, 0), 2, (0, 1), (3, 2), False, 2],
        )


if __name__ == "__main__":
    unittest.main()
