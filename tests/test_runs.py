"""[3.1] to [3.7] Runs."""

import unittest
from itertools import islice
from random import Random

from helping import NO_RATIOS, NO_SEQUENCES, Case, as_told
from oracle import whole_run
from samples import gaps_of_many, row_of_many, some_gaps, some_row

from untoldgaps.clashing import after_word
from untoldgaps.errors import BadGaps, Long
from untoldgaps.likeness import kin_of
from untoldgaps.ratios import over, plus, times
from untoldgaps.rows import Row
from untoldgaps.runs import MOST_CLASHES, Border, Run, clashes_of, next_clash, run_fault, run_of

ROW = Row([2, 1, 2], [1, 0, -1])
CALLS = (
    next_clash,
    lambda row, gaps: list(clashes_of(row, gaps)),
    run_of,
    lambda row, gaps: run_fault(row, gaps, Run((), (), (), ())),
)


def told(fractions):
    return tuple([as_told(fraction) for fraction in fractions])


def border_of(clashes, border):
    moment, pairs = border
    return Border(as_told(moment), pairs, [pair for _, pair, _ in clashes])


def some_cases(number, count):
    chance = Random(number)
    for _ in range(count):
        row = some_row(chance, weights=chance.choice((1, 3, 9)), parts=chance.choice((1, 3)))
        yield row, some_gaps(chance, row, chance.choice((1, 3, 30)))


class ErrorsTest(Case):
    def test_gaps(self):
        row = Row([1, 1], [0, -1], True)
        for call in CALLS:
            for thing in NO_SEQUENCES + ([], [1], [1, 2, 3], [None]):
                self.refused(BadGaps, {"what": "length"}, call, row, thing)
            for thing in NO_RATIOS + (0, -1, (0, 1)):
                self.refused(BadGaps, {"what": "gap"}, call, row, [thing, 1])
                self.refused(BadGaps, {"what": "gap"}, call, row, (1, thing))

    def test_what_is_passed_stays(self):
        gaps = [(2, 4), 7]
        for call in CALLS:
            call(ROW, gaps)
        self.is_same(gaps, [(2, 4), 7])
        still = run_of(Row([1, 1], [0, 0]), gaps[:1])
        gaps[0] = 5
        self.is_same(still.gaps, ((1, 2),))


class BorderTest(Case):
    def test_attributes(self):
        pairs, word = [0, 1], [2, 0]
        border = Border((4, 6), pairs, word)
        pairs.append(7)
        word.clear()
        self.is_same((border.moment, border.pairs, border.word), ((2, 3), (0, 1), (2, 0)))
        self.is_same(Border(3, (), ()).moment, (3, 1))

    def test_equality(self):
        border = Border((2, 3), (0, 1), (2,))
        self.assertTrue(border == Border((4, 6), [0, 1], [2]))
        for other in (
            Border((1, 3), (0, 1), (2,)),
            Border((2, 3), (0, 1, 2), (2,)),
            Border((2, 3), (0, 1), ()),
            ((2, 3), (0, 1), (2,)),
            Run((), (), (), ()),
            None,
        ):
            self.assertFalse(border == other)
            self.assertTrue(border != other)


class RunTest(Case):
    def test_attributes(self):
        lists = ([1, 0], [(2, 4), 3], [0, (-6, 4)], [(8, 2)])
        run = Run(*lists)
        for each in lists:
            each.append(1)
        self.is_same(
            (run.word, run.moments, run.speeds, run.gaps),
            ((1, 0), ((1, 2), (3, 1)), ((0, 1), (-3, 2)), ((4, 1),)),
        )

    def test_len_and_iteration(self):
        run = Run((1, 0, 1), (1, 2, 3), (), ())
        self.is_same(len(run), 3)
        self.is_same(list(run), [1, 0, 1])
        self.is_same([pair for pair in run], [1, 0, 1])
        self.is_same(len(Run((), (), (), ())), 0)
        self.is_same(list(Run((), (), (), ())), [])

    def test_equality(self):
        run = Run((0,), (1,), (2, 3), (4,))
        self.assertTrue(run == Run([0], [(2, 2)], [2, (6, 2)], [(4, 1)]))
        for other in (
            Run((1,), (1,), (2, 3), (4,)),
            Run((0,), (2,), (2, 3), (4,)),
            Run((0,), (1,), (2, 2), (4,)),
            Run((0,), (1,), (2, 3), (5,)),
            Border(1, (), ()),
            (0,),
            None,
        ):
            self.assertFalse(run == other)
            self.assertTrue(run != other)


class NextClashTest(Case):
    def test_clash(self):
        self.is_same(next_clash(ROW, [1, 2]), ((1, 1), 0))
        self.is_same(next_clash(ROW, [(9, 2), (4, 2)]), ((2, 1), 1))
        self.is_same(next_clash(Row([1, 1], [(-1, 2), 0], True), [3, 1]), ((6, 1), -1))

    def test_level(self):
        row = Row([1, 1, 1, 1], [1, 0, 1, 0])
        self.is_same(next_clash(row, [2, 5, 2]), ((2, 1), 0))
        self.is_same(next_clash(row, [3, 5, 2]), ((2, 1), 2))

    def test_border(self):
        border = next_clash(ROW, [1, 1])
        self.assertEqual(border, Border(1, (0, 1), ()))
        self.is_same((border.moment, border.pairs, border.word), ((1, 1), (0, 1), ()))
        # A pair on the level of a border that shares no ball with another one is not named.
        row = Row([1] * 5, [3, 1, 1, 0, -1])
        self.assertEqual(next_clash(row, [2, 9, 1, 1]), Border(1, (2, 3), ()))
        self.assertEqual(next_clash(Row([1, 1], [-1, -2], True), [1, 1]), Border(1, (-1, 0), ()))

    def test_nobody_comes(self):
        self.assertIsNone(next_clash(Row([1, 1, 1], [0, 0, 5]), [1, 1]))
        self.assertIsNone(next_clash(Row([1], [0], True), [1]))

    def test_against_the_rules(self):
        for row, gaps in some_cases(81, 150):
            clashes, border, _ = whole_run(row, gaps)
            found = next_clash(row, gaps)
            if clashes:
                self.is_same(found, (as_told(clashes[0][0]), clashes[0][1]))
            elif border:
                self.assertEqual(found, border_of(clashes, border))
            else:
                self.assertIsNone(found)


class RunOfTest(Case):
    def test_most_clashes(self):
        self.is_same(MOST_CLASHES, 800)

    def test_example(self):
        run = run_of(ROW, [1, 2])
        self.is_same(
            [run.word, run.moments, run.speeds, run.gaps, len(run)],
            [
                (0, 1, 0, 1),
                ((1, 1), (10, 7), (31, 19), (34, 13)),
                ((-29, 27), (32, 81), (71, 81)),
                ((27, 13), (0, 1)),
                4,
            ],
        )

    def test_nobody_comes(self):
        run = run_of(Row([1, 2], [0, (2, 4)]), [(6, 4)])
        self.assertEqual(run, Run((), (), [0, (1, 2)], [(3, 2)]))
        self.is_same((run.word, run.moments, run.speeds, run.gaps), ((), (), ((0, 1), (1, 2)), ((3, 2),)))

    def test_level(self):
        run = run_of(Row([1, 1, 1, 1], [1, 0, 1, 0]), [2, 5, 2])
        self.is_same(run.word, (0, 2, 1))
        self.is_same(run.moments, ((2, 1), (2, 1), (9, 1)))
        self.is_same(run.gaps, ((7, 1), (0, 1), (7, 1)))

    def test_border_behind_clashes(self):
        border = run_of(Row([1, 1, 1, 1], [4, 0, 0, -1]), [4, 4, 2])
        self.assertEqual(border, Border(2, (1, 2), (0,)))
        self.is_same((border.moment, border.pairs, border.word), ((2, 1), (1, 2), (0,)))

    def test_border_behind_a_level(self):
        border = run_of(Row([1] * 5, [1, 0, 0, 0, -1]), [2, 3, 3, 2])
        self.assertEqual(border, Border(5, (1, 2), (0, 3)))

    def test_against_the_rules(self):
        met = {"border": 0, "level": 0, "run": 0}
        for row, gaps in some_cases(82, 900):
            clashes, border, world = whole_run(row, gaps)
            found = run_of(row, gaps)
            if border:
                met["border"] += 1
                self.assertEqual(found, border_of(clashes, border))
                continue
            moments = [moment for moment, _, _ in clashes]
            met["level" if len(set(moments)) < len(moments) else "run"] += 1
            self.assertIs(found.__class__, Run)
            self.is_same(found.word, tuple([pair for _, pair, _ in clashes]))
            self.is_same(found.moments, told(moments))
            self.is_same(found.speeds, told(world.speeds))
            self.is_same(found.gaps, told(world.gaps()))
            self.assertEqual(after_word(row, found.word).speeds, found.speeds)
            self.assertIsNone(run_fault(row, gaps, found))
        self.assertTrue(all(count > 10 for count in met.values()), met)

    def test_long_numbers(self):
        row = Row([2, 1, 2], [10**60, (1, 7**50), (-3, 10**40)])
        gaps = [(10**45, 3**70), 10**50]
        clashes, _, world = whole_run(row, gaps)
        self.assertEqual(run_of(row, gaps).moments, told([moment for moment, _, _ in clashes]))
        self.assertEqual(run_of(row, gaps).gaps, told(world.gaps()))

    def test_eight_hundred_clashes(self):
        row = row_of_many(12)
        run = run_of(row, gaps_of_many(row))
        self.is_same(len(run), 800)
        self.assertIsNone(run_fault(row, gaps_of_many(row), run))
        self.assertEqual(list(clashes_of(row, gaps_of_many(row)))[-1], (run.moments[-1], run.word[-1], run.speeds))

    def test_one_more_clash(self):
        row = row_of_many(11)
        self.refused(Long, {"count": 800}, run_of, row, gaps_of_many(row))
        row = Row([1] * 40, [-speed for speed in range(1, 41)], True)
        self.refused(Long, {"count": 800}, run_of, row, gaps_of_many(row))

    def test_border_behind_eight_hundred_clashes(self):
        late = (10**9, 10**9)
        row = row_of_many(12, (1002, 1001, 1000))
        border = run_of(row, gaps_of_many(row, (1,) + late))
        self.assertEqual(border.moment, (10**9, 1))
        self.assertEqual(border.pairs, (29, 30))
        self.is_same(len(border.word), 800)
        row = row_of_many(11, (1002, 1001, 1000))
        self.refused(Long, {"count": 800}, run_of, row, gaps_of_many(row, (1,) + late))


class ClashesOfTest(Case):
    def test_example(self):
        self.is_same(list(clashes_of(ROW, [1, 2]))[:2], [
            ((1, 1), 0, ((1, 3), (4, 3), (-1, 1))),
            ((10, 7), 1, ((1, 3), (-16, 9), (5, 9))),
        ])

    def test_level(self):
        row = Row([1, 1, 1, 1], [1, 0, 3, 2])
        self.is_same(list(clashes_of(row, [2, 5, 2])), [
            ((2, 1), 0, ((0, 1), (1, 1), (3, 1), (2, 1))),
            ((2, 1), 2, ((0, 1), (1, 1), (2, 1), (3, 1))),
        ])

    def test_nothing_and_borders(self):
        self.is_same(list(clashes_of(Row([1, 1], [0, 0]), [1])), [])
        self.assertEqual(list(clashes_of(ROW, [1, 1])), [Border(1, (0, 1), ())])
        told_clashes = list(clashes_of(Row([1, 1, 1, 1], [4, 0, 0, -1]), [4, 4, 2]))
        self.assertEqual(told_clashes, [
            ((1, 1), 0, ((0, 1), (4, 1), (0, 1), (-1, 1))),
            Border(2, (1, 2), (0,)),
        ])

    def test_against_run_of(self):
        for row, gaps in some_cases(83, 200):
            run = run_of(row, gaps)
            clashes = list(clashes_of(row, gaps))
            if isinstance(run, Border):
                self.assertEqual(clashes.pop(), run)
            else:
                self.assertEqual(tuple([moment for moment, _, _ in clashes]), run.moments)
            self.assertEqual(tuple([pair for _, pair, _ in clashes]), run.word)
            for at, (_, _, speeds) in enumerate(clashes):
                self.assertEqual(speeds, after_word(row, run.word[: at + 1]).speeds)
                self.are_told(speeds)

    def test_eight_hundred_clashes(self):
        row = row_of_many(12)
        self.is_same(len(list(clashes_of(row, gaps_of_many(row)))), 800)
        row = row_of_many(11)
        clashes = clashes_of(row, gaps_of_many(row))
        self.is_same(len(list(islice(clashes, 800))), 800)
        self.refused(Long, {"count": 800}, next, clashes)

    def test_border_behind_eight_hundred_clashes(self):
        row = row_of_many(12, (1002, 1001, 1000))
        clashes = list(clashes_of(row, gaps_of_many(row, (1, 10**9, 10**9))))
        self.is_same(len(clashes), 801)
        self.assertEqual(clashes[-1], run_of(row, gaps_of_many(row, (1, 10**9, 10**9))))


class KinTest(Case):
    def test_runs_of_kin(self):
        """[1.8] Kin have one word for all gaps, moments by the pace, and ends that are led along."""
        chance = Random(84)
        for _ in range(60):
            row = some_row(chance, weights=4)
            other = row.heavier(2).quicker((chance.randint(1, 5), chance.randint(1, 5)))
            if not row.wall:
                other = other.hurried(chance.randint(-3, 3))
            kin = kin_of(row, other)
            gaps = some_gaps(chance, row, 50)
            one, second = run_of(row, gaps), run_of(other, gaps)
            self.assertEqual(one.word, second.word)
            if isinstance(one, Border):
                self.assertEqual(second.moment, over(one.moment, kin.pace))
                continue
            self.assertEqual(second.moments, tuple([over(moment, kin.pace) for moment in one.moments]))
            ends = [plus(times(speed, kin.pace), kin.more) for speed in one.speeds]
            self.assertEqual(second.speeds, tuple(ends))


class RunFaultTest(Case):
    gaps = [1, 2]

    def setUp(self):
        self.run_told = run_of(ROW, self.gaps)

    def fault(self, word=None, moments=None, speeds=None, gaps=None, row=ROW, begin=None):
        run = self.run_told
        result = Run(
            run.word if word is None else word,
            run.moments if moments is None else moments,
            run.speeds if speeds is None else speeds,
            run.gaps if gaps is None else gaps,
        )
        return run_fault(row, self.gaps if begin is None else begin, result)

    def test_right(self):
        self.assertIsNone(self.fault())
        self.assertIsNone(run_fault(Row([1, 1], [0, 0]), [(2, 4)], Run([], [], [0, 0], [(1, 2)])))

    def test_word(self):
        self.assertEqual(self.fault(word=(1, 1, 0, 1)), "word")
        self.assertEqual(self.fault(word=(0, 1, 0, 1, 0)), "word")
        self.assertEqual(self.fault(word=(0, 1, 1, 1)), "word")
        self.assertEqual(self.fault(word=(False, 1, 0, 1)), "word")
        self.assertEqual(self.fault(word=(0, True, 0, 1)), "word")
        self.assertEqual(self.fault(word=(0, None, 0, 1)), "word")
        self.assertEqual(self.fault(word=(0, 1.0, 0, 1)), "word")
        self.assertEqual(self.fault(word=("0", 1, 0, 1)), "word")
        self.assertEqual(self.fault(word=(0, 7, 0, 1)), "word")

    def test_word_at_a_border(self):
        self.assertEqual(self.fault(begin=[1, 1]), "word")
        self.assertEqual(run_fault(ROW, [1, 1], Run((), (), ROW.speeds, [1, 1])), "more")
        self.assertEqual(run_fault(ROW, [1, 1], Run((), (), ROW.speeds, [1, 2])), "gaps")

    def test_word_on_a_level(self):
        row = Row([1, 1, 1, 1], [1, 0, 1, 0])
        gaps = [2, 5, 2]
        run = run_of(row, gaps)
        self.assertIsNone(run_fault(row, gaps, run))
        self.assertEqual(run_fault(row, gaps, Run((2, 0, 1), run.moments, run.speeds, run.gaps)), "word")

    def test_word_comes_before_moments(self):
        self.assertEqual(self.fault(word=(0, 0, 0, 1), moments=(1, 9, 9, 9)), "word")
        self.assertEqual(self.fault(word=(0, 0, 0, 1), moments=(9, 9, 9, 9)), "moments")

    def test_moments(self):
        right = self.run_told.moments
        self.assertEqual(self.fault(moments=right[:3]), "moments")
        self.assertEqual(self.fault(moments=()), "moments")
        self.assertEqual(self.fault(moments=right + (9,)), "moments")
        self.assertEqual(self.fault(moments=((1, 2),) + right[1:]), "moments")
        self.assertEqual(self.fault(moments=(True,) + right[1:]), "moments")
        self.assertEqual(self.fault(moments=((True, 1),) + right[1:]), "moments")
        self.assertEqual(self.fault(moments=((1, True),) + right[1:]), "moments")
        self.assertEqual(self.fault(moments=(None,) + right[1:]), "moments")
        self.assertIsNone(self.fault(moments=[1, (20, 14), (31, 19), (34, 13)]))
        self.assertEqual(self.fault(moments=right + (9,), speeds=()), "moments")
        # A wrong moment is found ahead of a pair that is wrong further on.
        self.assertEqual(self.fault(word=(0, 1, 0, 0), moments=(1, 1, 1, 1)), "moments")

    def test_speeds(self):
        right = self.run_told.speeds
        for speeds in ((), right[:2], right + (0,), right[::-1], (None,) + right[1:], ROW.speeds):
            self.assertEqual(self.fault(speeds=speeds), "speeds")
            self.assertEqual(self.fault(speeds=speeds, gaps=()), "speeds")
        row = Row([1, 1], [0, 1])
        self.assertIsNone(run_fault(row, [1], Run((), (), (0, 1), (1,))))
        self.assertEqual(run_fault(row, [1], Run((), (), (0, True), (1,))), "speeds")
        self.assertEqual(run_fault(row, [1], Run((), (), (False, 1), (1,))), "speeds")
        self.assertEqual(run_fault(row, [1], Run((), (), ((0, True), 1), (1,))), "speeds")

    def test_gaps(self):
        right = self.run_told.gaps
        for gaps in ((), right[:1], right + (0,), right[::-1], (right[0], None), (right[0], False), (1, 2)):
            self.assertEqual(self.fault(gaps=gaps), "gaps")
        row = Row([1, 1], [0, 1])
        self.assertEqual(run_fault(row, [1], Run((), (), (0, 1), (True,))), "gaps")
        self.assertEqual(run_fault(row, [1], Run((), (), (0, 1), (2,))), "gaps")

    def test_more(self):
        told_clashes = list(clashes_of(ROW, self.gaps))
        clashes, _, _ = whole_run(ROW, self.gaps)
        self.assertEqual(len(told_clashes), len(clashes))
        self.assertEqual(run_fault(ROW, self.gaps, Run((), (), ROW.speeds, self.gaps)), "more")
        first = Run((0,), (1,), told_clashes[0][2], [0, 1])
        self.assertEqual(run_fault(ROW, self.gaps, first), "more")
        first = Run((0,), (1,), told_clashes[0][2], [0, 2])
        self.assertEqual(run_fault(ROW, self.gaps, first), "gaps")

    def test_eight_hundred_clashes(self):
        row = row_of_many(11)
        gaps = gaps_of_many(row)
        clashes, border, world = whole_run(row, gaps)
        self.assertEqual((len(clashes), border), (801, None))
        word = [pair for _, pair, _ in clashes]
        moments = told([moment for moment, _, _ in clashes])
        result = Run(word, moments, told(world.speeds), told(world.gaps()))
        self.assertEqual(run_fault(row, gaps, result), "word")
        result = Run(word[:800], moments, told(world.speeds), told(world.gaps()))
        self.assertEqual(run_fault(row, gaps, result), "moments")
        result = Run(word[:800], moments[:800], told(clashes[799][2]), ())
        self.assertEqual(run_fault(row, gaps, result), "gaps")


if __name__ == "__main__":
    unittest.main()
