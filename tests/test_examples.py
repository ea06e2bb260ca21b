"""All examples of the document."""

import importlib
import pkgutil
import unittest

from helping import Case

import untoldgaps
from untoldgaps.begins import fewest_of_pair
from untoldgaps.closedrows import orders_of
from untoldgaps.corners import share_of
from untoldgaps.errors import BadFact, GapError
from untoldgaps.facts import check_fact
from untoldgaps.heard import explain_moments
from untoldgaps.histories import all_histories, least_word, same_history
from untoldgaps.likeballs import like_counts, like_end, like_moments
from untoldgaps.meetings import Ahead, Either, meeting_order
from untoldgaps.mends import good_selections
from untoldgaps.orders import returns_after
from untoldgaps.ranges import gap_ranges, moment_ranges
from untoldgaps.rows import Row
from untoldgaps.sticking import pooled_parting, speed_bounds
from untoldgaps.stickruns import join_forms, join_moments
from untoldgaps.strict import Empty, Strict, find_inner, strict_fault
from untoldgaps.wedges import all_wedges, wedge_of

EXAMPLES = {
    "[1.12]": """
>>> [ratio_of((6, 4)), minus(1, (1, 3)), over((1, 2), -3), lowest_row([(1, 2), -1, 0])]
[(3, 2), (2, 3), (-1, 6), (1, -2, 0)]
>>> ratio_of((1, True))
raises BadRatio
>>> row = Row([2, 1], [(1, 2), -1], wall=True)
>>> [row.pairs, row.gap_count, row.first_sum, row.second_sum, row.is_like, len(row)]
[(-1, 0), 2, (0, 1), (3, 2), False, 2]
>>> Row([1, 10], [0, None])
raises BadRow(index=1, what='weight')
>>> one = Row([2, 4], [1, 0])
>>> kin = kin_of(one, Row([1, 2], [5, 2]))
>>> [kin.factor, kin.pace, kin.more, least_row(one).speeds]
[(1, 2), (3, 1), (2, 1), ((0, 1), (-1, 1))]
""",
    "[2.10]": """
>>> row = Row((2, 1, 2), (1, 0, -1))
>>> after_clash(row, 0).speeds
((1, 3), (4, 3), (-1, 1))
>>> [returns_after(Row((2, 1, 3), (0, 0, 0)), (0, 1)), returns_after(Row((2, 1, 2), (0, 0, 0)), (0, 1))]
[4, None]
>>> reduced_word([2, 0, 1, 1, 2])
(0,)
>>> all_tables(Row((1, 1, 1), (0, 0, 0)))
((), (0,), (1,), (0, 1), (1, 0), (0, 1, 0))
>>> tells_apart(Row((1, 1, 1), (0, 0, 0)), [0], [1])
0
""",
    "[3.15]": """
>>> told = run_of(Row([2, 1, 2], [1, 0, -1]), [1, 2])
>>> [told.word, told.moments, told.speeds, told.gaps, len(told)]
[(0, 1, 0, 1), ((1, 1), (10, 7), (31, 19), (34, 13)), ((-29, 27), (32, 81), (71, 81)), ((27, 13), (0, 1)), 4]
>>> told = next_clash(Row([2, 1, 2], [1, 0, -1]), [1, 1])
>>> [told.moment, told.pairs, told.word]
[(1, 1), (0, 1), ()]
>>> told = forms_of(Row([2, 1, 2], [1, 0, -1]), [0, 1])
>>> [told.moments, told.gaps, told.rows, told.coming, told.is_over, value_of(told.moments[1], [1, 2])]
[(((1, 1), (0, 1)), ((4, 7), (3, 7))), (((-3, 7), (3, 7)), ((0, 1), (0, 1))), ((-1, 1),), (0,), False, (10, 7)]
""",
    "[4.12]": """
>>> row = Row([2, 1, 2], [1, 0, -1])
>>> told = all_stretches(row)
>>> [told[0].high, told[0].word, told[1].word, told[1].speeds]
[(1, 1), (0, 1, 0, 1), (1, 0, 1, 0), ((-71, 81), (-32, 81), (29, 27))]
>>> turn_ratios(Row([2, 1, 3], [0, 0, 0]), 0)
((-4, 3), (-2, 3), (0, 1))
>>> row = Row([2, 1, 3], [1, 0, -1])
>>> [roots_of(row), closed_count(row), closed_end(row)]
[((0, 1), (1, 0), (2, 3), (4, 3)), 4, ((-4, 3), (-1, 3), (2, 3))]
>>> closed_moments(row, [1, 2])
((1, 1), (10, 7), (8, 5), (2, 1))
""",
    "part 6": """
>>> row = Row((1, 1, 1), (1, 0, -1))
>>> decide_claim(row, ('count', 3, 3)) == Sure()
True
>>> row = Row((1, 1, 1), (1, 0, -1))
>>> clash_ranges(row)
((0, 1, 2), (1, 1, 2))
>>> row = Row((1, 1, 1), (1, 0, -1))
>>> ratios_with(row, ('first', 0))
(((0, 1), (1, 1)),)
>>> row = Row((2, 1, 2), (1, 0, -1))
>>> all_ends(row)
(((-29, 27), (32, 81), (71, 81)), ((-71, 81), (-32, 81), (29, 27)))
>>> row = Row((5, 5, 5), (0, -1, 2), True)
>>> like_meetings(row)
(-1, 0)
""",
    "[7.9]": """
>>> row = Row((1, 1, 1, 1), (2, 0, 1, -1))
>>> like_moments(row, (1, 1, 1))
(((1, 2), (0, 2)), ((1, 1), (1,)), ((2, 1), (0, 2)))
>>> like_counts(Row((1, 1), (1, -2), True))
(1, 2)
>>> row = Row((1, 1, 1, 1), (2, 0, 1, -1))
>>> meeting_order(row, ("pass", 0, 1), ("pass", 0, 2)) == Ahead()
True
>>> begin = begin_of([0, 0], [-1, 1], 2)
>>> [begin.place, begin.gaps, begin.speeds]
[(-2, 1), ((4, 1),), ((1, 1), (-1, 1))]
>>> fewest_of_pair(Row((1, 1, 1), (2, 1, 0)), 0).many
1
""",
}


def all_names():
    """Everything that the modules of the package define, as the examples name it."""
    names = {}
    for module in pkgutil.iter_modules(untoldgaps.__path__):
        for name, value in vars(importlib.import_module(f"untoldgaps.{module.name}")).items():
            if not name.startswith("_"):
                names[name] = value
    return names


class WrittenExamplesTest(Case):
    def told(self, line, names):
        """What a line of an example gives, written as the document writes it."""
        try:
            return repr(eval(line, names))
        except GapError as error:
            attributes = ", ".join([f"{name}={value!r}" for name, value in vars(error).items()])
            return f"raises {error.__class__.__name__}" + (f"({attributes})" if attributes else "")

    def test_all(self):
        count = 0
        for point, text in EXAMPLES.items():
            names = all_names()
            lines = text.strip().split("\n")
            for line, answer in zip(lines, lines[1:] + [">>> "]):
                if line.startswith(">>> ") and answer.startswith(">>> "):
                    exec(line[4:], names)
                elif line.startswith(">>> "):
                    self.assertEqual(self.told(line[4:], names), answer, (point, line))
                    count += 1
        self.assertEqual(count, 27)


class ExamplesInWordsTest(Case):
    def test_words_that_return(self):
        for weights, times in (((1, 1, 1), 3), ((2, 1, 3), 4), ((5, 1, 9), 6), ((2, 1, 2), None)):
            self.is_same(returns_after(Row(weights, (0, 0, 0)), (0, 1)), times)

    def test_orders(self):
        self.is_same(orders_of(Row([2, 1, 3], [0] * 3)), (4,))
        self.is_same(orders_of(Row([6, 1, 7], [0] * 3)), (6,))
        self.is_same(orders_of(Row([6, 2, 1, 3], [0] * 4)), (3, 4))

    def test_strict_rows(self):
        strict = Strict(2, [(1, -2), (-1, 1)])
        self.assertIs(find_inner(strict).__class__, Empty)
        self.assertIsNone(strict_fault(strict, Empty((1, 1, 0, 1))))

    def test_histories(self):
        self.assertTrue(same_history((0, 2, 1, 2, 0), (2, 0, 1, 0, 2)))
        self.is_same(least_word((2, 0, 1, 0, 2)), (0, 2, 1, 0, 2))
        row = Row((1, 1, 1, 1), (1, 0, 0, -1))
        found = all_wedges(row)
        words = ((0, 1, 2, 1, 0), (0, 2, 1, 2, 0), (2, 0, 1, 0, 2), (2, 1, 0, 1, 2))
        self.is_same(tuple([wedge.word for wedge in found]), words)
        for wedge in found:
            self.is_same(share_of(Strict(3, wedge.rows)), (1, 4))
        second = found[1]
        self.is_same((second.rows, second.corners, second.gaps),
                     (((-1, 0, 1), (1, 1, -1)), ((0, 1, 0), (0, 1, 1), (1, 0, 1)), (1, 2, 2)))
        history = all_histories(row)[1]
        self.is_same((history.words, history.rows, len(history.corners)), (words[1:3], ((-1, 1, 1), (1, 1, -1)), 4))

    def test_like_balls(self):
        row = Row((1, 1, 1, 1), (2, 0, 1, -1))
        self.is_same(like_end(row), ((-1, 1), (0, 1), (1, 1), (2, 1)))
        self.is_same(like_counts(row), (0, 5))
        self.assertTrue(meeting_order(row, ("pass", 0, 1), ("pass", 0, 2)) == Ahead())
        self.assertIs(meeting_order(row, ("pass", 0, 1), ("pass", 2, 3)).__class__, Either)
        self.is_same(like_moments(Row((1, 1, 1), (1, 0, -1)), (1, 1)), (((1, 1), (0, 1)),))
        self.is_same(fewest_of_pair(row, 1).many, 1)

    def test_sticking(self):
        row = Row([1, 1, 1], [3, 0, 1])
        told = pooled_parting(row)
        self.is_same((told.lots, told.means), (((0, 2),), ((4, 3),)))
        for one, other in ((1, 1), ((3, 7), 5), (9, (1, 2))):
            self.is_same(join_moments(row, [one, 1])[0], join_moments(row, [one, other])[0])
        self.is_same(join_moments(row, [6, 5]), ((2, 1), (16, 1)))
        self.is_same(join_forms(row, 1), (((0, 2), ((1, 1), (2, 1))),))
        self.is_same(speed_bounds(row, 2)[1], (3, 2))

    def test_heard(self):
        row = Row((1, 1, 1), (3, 0, -1))
        self.is_same([wedge.word for wedge in all_wedges(row)], [(0, 1, 0), (1, 0, 1)])
        self.is_same([moment for moment, _ in like_moments(row, [6, 4])], [(2, 1), (5, 2), (4, 1)])
        self.is_same([wedge_of(row, gaps) for gaps in ([6, 4], [4, 1])], [0, 1])
        self.refused(BadFact, {"what": "fact"}, check_fact, row, ("first", 0))
        self.is_same(moment_ranges(row, [("word", (0,))], 1, 3), (((0, 1, 0), (1, 1), None),))
        self.is_same(gap_ranges(row, [("between", 1, 3, 2, 3)], 0, 1),
                     (((0, 1, 0), (1, 1), (3, 2)), ((1, 0, 1), (6, 1), (9, 1))))
        self.is_same(explain_moments(row, [1, (3, 2), 3]), (((0, 1, 0), ((3, 1), (3, 1))),))

    def test_mends(self):
        row = Row([1, 1, 1], [3, 0, 1])
        pool = [("speed", 2, 2), ("speed", 1, 2), ("speed", 0, 1)]
        good = good_selections(row, pool, [("apart", 1, 2)], sticking=True)
        self.assertEqual([one in good for one in ((), (0,), (0, 1), (0, 1, 2))], [False, True, False, True])
        told = pooled_parting(row.with_speeds([3, 0, 2]))
        self.is_same((told.lots, told.means), (((0, 1), (2, 2)), ((3, 2), (2, 1))))
        self.is_same(pooled_parting(row.with_speeds([3, 2, 2])).lots, ((0, 2),))


if __name__ == "__main__":
    unittest.main()
