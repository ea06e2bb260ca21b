"""[5.1] to [5.3], [5.5] Strict rows."""

import unittest
from math import gcd
from random import Random

from helping import NO_RATIOS, NO_SEQUENCES, NO_WHOLES, Case
from oracle import fractions
from samples import UNITS, some_systems

from untoldgaps.errors import BadGaps, BadStrict, NoInner
from untoldgaps.strict import Empty, Inner, Strict, find_inner, needless_rows, strict_fault


def adds_up(strict, weights):
    """The sum of all rows and gaps times their weights."""
    vectors = list(strict.rows) + UNITS[strict.size]
    told = fractions(weights)
    assert len(told) == len(vectors)
    return [sum(weight * vector[at] for weight, vector in zip(told, vectors)) for at in range(strict.size)]


def is_inner(strict, gaps):
    return min(gaps) > 0 and all(sum(a * b for a, b in zip(row, gaps)) > 0 for row in strict.rows)


class StrictTest(Case):
    def test_attributes(self):
        strict = Strict(2, [[2, -4], ((1, 2), (1, 3)), [0, 0], (0, 7), [2, -4]])
        self.is_same(strict.size, 2)
        self.is_same(strict.rows, ((1, -2), (3, 2), (0, 0), (0, 1), (1, -2)))
        self.is_same(Strict(3, ()).rows, ())
        self.is_same(Strict(1, [[(-3, 7)]]).rows, ((-1,),))
        self.is_same(Strict(3, [[(2, 6), 0, (-1, 2)]]).rows, ((2, 0, -3),))

    def test_what_is_passed_stays(self):
        rows = [[2, -4], [1, 0]]
        strict = Strict(2, rows)
        rows[0][0] = 9
        rows.append([5, 5])
        self.is_same(strict.rows, ((1, -2), (1, 0)))
        self.is_same(rows, [[9, -4], [1, 0], [5, 5]])

    def test_size(self):
        for size in NO_WHOLES + (0, -1, 4, (2, 1)):
            self.refused(BadStrict, {"index": 0, "what": "size"}, Strict, size, None)
            self.refused(BadStrict, {"index": 0, "what": "size"}, Strict, size, [])

    def test_rows(self):
        for rows in NO_SEQUENCES + ([[1, 2]] * 401, [None] * 401, Strict(2, [])):
            self.refused(BadStrict, {"index": 0, "what": "rows"}, Strict, 2, rows)
        self.is_same(Strict(2, [[1, 2]] * 400).rows, ((1, 2),) * 400)

    def test_each_row(self):
        good = [1, 2]
        for thing in NO_SEQUENCES:
            self.refused(BadStrict, {"index": 1, "what": "row"}, Strict, 2, [good, thing, None])
        for thing in ([], [1], (1, 2, 3), [None, None, None]):
            self.refused(BadStrict, {"index": 2, "what": "length"}, Strict, 2, [good, good, thing, None])
        for thing in NO_RATIOS:
            self.refused(BadStrict, {"index": 0, "what": "number"}, Strict, 2, [[thing, 1], None, [1]])
            self.refused(BadStrict, {"index": 1, "what": "number"}, Strict, 2, [good, (1, thing), None])
        # Row by row, all words of one row before the next one.
        self.refused(BadStrict, {"index": 0, "what": "number"}, Strict, 2, [[1, None], None])
        self.refused(BadStrict, {"index": 0, "what": "length"}, Strict, 2, [[None], 5])

    def test_equality(self):
        strict = Strict(2, [[1, -2]])
        self.assertTrue(strict == Strict(2, ([(1, 3), (-2, 3)],)))
        for other in (Strict(2, [[1, -1]]), Strict(2, []), Strict(2, [[1, -2]] * 2), ((1, -2),), None):
            self.assertFalse(strict == other)
            self.assertTrue(strict != other)
        self.assertFalse(Strict(1, []) == Strict(2, []))
        self.assertTrue(Strict(3, []) == Strict(3, ()))
        self.assertFalse(Strict(2, [[1, 0], [0, 1]]) == Strict(2, [[0, 1], [1, 0]]))


class WithRowTest(Case):
    def test_new_row(self):
        strict = Strict(2, [[1, -2]])
        longer = strict.with_row([(1, 2), -1])
        self.is_same(longer.rows, ((1, -2), (1, -2)))
        self.assertTrue(longer == Strict(2, [[1, -2], [1, -2]]))
        self.is_same(strict.rows, ((1, -2),))
        self.is_same(Strict(3, []).with_row((0, 0, 5)).rows, ((0, 0, 1),))

    def test_errors(self):
        strict = Strict(2, [[1, -2], [1, 0]])
        for thing in NO_SEQUENCES:
            self.refused(BadStrict, {"index": 2, "what": "row"}, strict.with_row, thing)
        for thing in ([], [1], [None] * 3):
            self.refused(BadStrict, {"index": 2, "what": "length"}, strict.with_row, thing)
        for thing in NO_RATIOS:
            self.refused(BadStrict, {"index": 2, "what": "number"}, strict.with_row, [1, thing])

    def test_many_rows(self):
        strict = Strict(1, [[1]] * 399)
        full = strict.with_row([2])
        self.assertEqual(len(full.rows), 400)
        for thing in ([1], None, [], ["x"], [1, 2]):
            self.refused(BadStrict, {"index": 0, "what": "rows"}, full.with_row, thing)
        self.refused(BadStrict, {"index": 399, "what": "row"}, strict.with_row, None)


class HoldsAtTest(Case):
    def test_values(self):
        strict = Strict(2, [[1, -2]])
        for gaps, holds in (([3, 1], True), ([2, 1], False), ([1, 1], False), ([(5, 2), (7, 6)], True)):
            self.is_same(strict.holds_at(gaps), holds)
            self.is_same(strict.holds_at(tuple(gaps)), holds)
        self.is_same(Strict(2, []).holds_at([1, 1]), True)
        self.is_same(Strict(1, [[0]]).holds_at([1]), False)
        self.is_same(Strict(3, [[1, 1, 1], [0, 0, 0]]).holds_at([1, 1, 1]), False)

    def test_against_fractions(self):
        chance = Random(241)
        for strict in some_systems(242, 200, 3):
            gaps = [(chance.randint(1, 4), chance.randint(1, 3)) for _ in range(strict.size)]
            self.is_same(strict.holds_at(gaps), is_inner(strict, fractions(gaps)))

    def test_errors(self):
        strict = Strict(2, [[0, 0]])
        for thing in NO_SEQUENCES + ([], [1], [1, 2, 3], [None]):
            self.refused(BadGaps, {"what": "length"}, strict.holds_at, thing)
        for thing in NO_RATIOS + (0, -1, (0, 1), (-1, 2)):
            self.refused(BadGaps, {"what": "gap"}, strict.holds_at, [1, thing])
            self.refused(BadGaps, {"what": "gap"}, strict.holds_at, (thing, None))


class FindInnerTest(Case):
    def check(self, strict):
        result = find_inner(strict)
        self.assertIsNone(strict_fault(strict, result))
        if isinstance(result, Inner):
            self.assertIs(result.gaps.__class__, tuple)
            self.assertEqual([gap.__class__ for gap in result.gaps], [int] * strict.size)
            self.assertEqual(gcd(*result.gaps), 1)
            self.assertTrue(is_inner(strict, result.gaps))
            return True
        self.assertIs(result.__class__, Empty)
        self.assertIs(result.weights.__class__, tuple)
        self.assertEqual([weight.__class__ for weight in result.weights], [int] * (len(strict.rows) + strict.size))
        self.assertGreaterEqual(min(result.weights), 0)
        self.assertEqual(gcd(*result.weights), 1)
        self.assertEqual(adds_up(strict, result.weights), [0] * strict.size)
        return False

    def test_example(self):
        strict = Strict(2, [(1, -2), (-1, 1)])
        self.assertTrue(find_inner(strict) == Empty((1, 1, 0, 1)))

    def test_without_rows(self):
        for size in (1, 2, 3):
            self.assertTrue(self.check(Strict(size, [])))

    def test_edges(self):
        for size, rows, has_inner in (
            (1, [[1]], True),
            (1, [[0]], False),
            (1, [[-1]], False),
            (1, [[3], [(1, 2)], [-7]], False),
            (2, [[0, 0]], False),
            (2, [[1, -1], [-1, 1]], False),
            (2, [[1, -1]], True),
            (2, [[-1, 0]], False),
            (2, [[-1, -1]], False),
            (2, [[5, -3], [-4, 3]], True),
            (3, [[1, 1, 1], [-1, -1, -1]], False),
            (3, [[1, -1, 0], [0, 1, -1], [-1, 0, 1]], False),
            (3, [[1, -1, 0], [0, 1, -1], [2, 0, -1]], True),
            (3, [[1, -1, 0], [-1, 1, 0]], False),
            (3, [[1, 0, 0], [1, 0, 0], [0, 0, 0]], False),
            (3, [[-1, 0, 1], [1, 1, -1]], True),
        ):
            self.is_same(self.check(Strict(size, rows)), has_inner)

    def test_at_random(self):
        seen = {(size, kind): 0 for size in (1, 2, 3) for kind in (True, False)}
        for strict in some_systems(243, 3000):
            seen[strict.size, self.check(strict)] += 1
        self.assertGreater(min(seen.values()), 60)

    def test_narrow_ones(self):
        """Systems that keep only a thin part of all gaps."""
        chance = Random(244)
        for _ in range(60):
            inside = [chance.randint(1, 10**6) for _ in range(3)]
            rows = []
            while len(rows) < 30:
                row = [chance.randint(-9, 9) for _ in range(3)]
                if sum(a * b for a, b in zip(row, inside)) > 0:
                    rows.append(row)
            strict = Strict(3, rows)
            self.assertTrue(self.check(strict))
            against = [-(2 * sum(numbers)) for numbers in zip(*rows)]
            self.assertFalse(self.check(strict.with_row(against)))

    def test_many_rows(self):
        chance = Random(245)
        rows = [[chance.randint(0, 50), chance.randint(-5, 50), chance.randint(-5, 50)] for _ in range(399)]
        strict = Strict(3, rows)
        self.check(strict)
        self.assertFalse(self.check(strict.with_row([-1, -1, 0])))

    def test_great_numbers(self):
        great = 10**300
        self.assertTrue(self.check(Strict(2, [[great, -great - 1], [-great, great + 2]])))
        self.assertFalse(self.check(Strict(2, [[great, -great - 1], [-great, great + 1]])))
        self.assertTrue(self.check(Strict(3, [[(1, great), -1, -1]])))


class ResultsTest(Case):
    def test_equality(self):
        self.assertTrue(Inner((1, 2)) == Inner((1, 2)))
        self.assertTrue(Empty((1, 2)) == Empty((1, 2)))
        for one, other in (
            (Inner((1, 2)), Inner((2, 1))),
            (Inner((1, 2)), Empty((1, 2))),
            (Empty((1, 2)), Inner((1, 2))),
            (Empty((1, 2)), Empty((1, 2, 0))),
            (Inner((1, 2)), (1, 2)),
            (Empty((1, 2)), None),
        ):
            self.assertFalse(one == other)
            self.assertTrue(one != other)

    def test_constructors_keep_all(self):
        for thing in ([2, 4], None, (0, -1), "x"):
            self.assertIs(Inner(thing).gaps, thing)
            self.assertIs(Empty(thing).weights, thing)


class StrictFaultTest(Case):
    STRICT = Strict(2, [(1, -2), (0, 1)])
    VOID = Strict(2, [(1, -2), (-1, 1)])

    def test_kind(self):
        for thing in (None, (3, 1), 7, "Inner", [Inner((3, 1))], self.STRICT):
            self.is_same(strict_fault(self.STRICT, thing), "kind")

    def test_inner(self):
        for gaps in ((3, 1), (5, 2), (10**30, 1)):
            self.assertIsNone(strict_fault(self.STRICT, Inner(gaps)))
        for gaps in ([3, 1], (6, 2), (1, 0), (3,), (3, 1, 1), (), None, "31", (3, 0), (-3, -1), (3, True), (3.0, 1),
                     ((3, 1), (1, 1)), (2, 2), (0, 0)):
            self.is_same(strict_fault(self.STRICT, Inner(gaps)), "gaps")
        for gaps in ((2, 1), (1, 1), (1, 5)):
            self.is_same(strict_fault(self.STRICT, Inner(gaps)), "row")
        self.is_same(strict_fault(self.VOID, Inner((3, 1))), "row")
        self.is_same(strict_fault(self.VOID, Inner((4, 2))), "gaps")
        self.is_same(strict_fault(Strict(1, []), Inner((2,))), "gaps")
        self.assertIsNone(strict_fault(Strict(1, []), Inner((1,))))

    def test_empty(self):
        self.assertIsNone(strict_fault(self.VOID, Empty((1, 1, 0, 1))))
        for weights in ([1, 1, 0, 1], (2, 2, 0, 2), (1, 1, 0), (1, 1, 0, 1, 0), (0, 0, 0, 0), (), None, 7,
                        (1, 1, -1, 1), (1, 1, False, 1), (True, 1, 0, 1), (1, 1, (0, 1), 1), (1.0, 1, 0, 1)):
            self.is_same(strict_fault(self.VOID, Empty(weights)), "weights")
        for weights in ((1, 1, 0, 0), (1, 2, 0, 1), (0, 0, 0, 1), (1, 1, 1, 1)):
            self.is_same(strict_fault(self.VOID, Empty(weights)), "sum")
        self.is_same(strict_fault(self.STRICT, Empty((1, 2, 0, 0))), "sum")
        self.is_same(strict_fault(Strict(1, []), Empty((1,))), "sum")
        self.is_same(strict_fault(Strict(1, []), Empty((0,))), "weights")
        # There may be several right ones.
        twice = Strict(1, [[0], [-1], [0]])
        for weights in ((1, 0, 0, 0), (0, 0, 1, 0), (0, 1, 0, 1), (3, 5, 2, 5)):
            self.assertIsNone(strict_fault(twice, Empty(weights)))


class NeedlessRowsTest(Case):
    def check(self, strict):
        found = needless_rows(strict)
        self.assertIs(found.__class__, tuple)
        for index, weights in found:
            self.are_told(weights)
            self.assertGreaterEqual(min(fractions(weights)), 0)
            self.is_same(weights[index], (0, 1))
            self.assertEqual(adds_up(strict, weights), list(strict.rows[index]))
        expected = []
        for index, row in enumerate(strict.rows):
            others = Strict(strict.size, strict.rows[:index] + strict.rows[index + 1:])
            if isinstance(find_inner(others.with_row([-number for number in row])), Empty):
                expected.append(index)
        self.is_same([index for index, _ in found], expected)
        return expected

    def test_some(self):
        self.is_same(self.check(Strict(2, [(1, -2), (2, -1)])), [1])
        self.is_same(self.check(Strict(2, [(1, -2), (2, -4)])), [0, 1])
        self.is_same(self.check(Strict(2, [(1, 0), (1, 1), (1, -1)])), [0, 1])
        self.is_same(self.check(Strict(1, [[1], [5]])), [0, 1])
        self.is_same(self.check(Strict(1, [[1]])), [0])
        self.is_same(self.check(Strict(3, [])), [])
        self.is_same(self.check(Strict(3, [[1, -1, 0], [0, 1, -1], [1, 0, -1]])), [2])
        self.is_same(self.check(Strict(3, [[-1, 1, 1], [1, 1, -1]])), [])
        self.is_same(
            needless_rows(Strict(2, [(1, -2), (2, -4)])),
            ((0, ((0, 1), (1, 1), (0, 1), (0, 1))), (1, ((1, 1), (0, 1), (0, 1), (0, 1)))),
        )
        self.is_same(needless_rows(Strict(2, [(2, 3)])), ((0, ((0, 1), (2, 1), (3, 1))),))

    def test_at_random(self):
        many = {1: 0, 2: 0, 3: 0}
        for strict in some_systems(246, 2500):
            if isinstance(find_inner(strict), Inner):
                many[strict.size] += len(self.check(strict))
        self.assertGreater(min(many.values()), 50)

    def test_many_rows(self):
        chance = Random(247)
        rows = [[chance.randint(-3, 9) for _ in range(3)] for _ in range(40)]
        rows = [row for row in rows if sum(row) > 0]
        self.check(Strict(3, rows))

    def test_no_inner(self):
        for rows in ([(1, -2), (-1, 1)], [(0, 0)], [(-1, 0)], [(1, -1), (1, 0), (-1, 1)]):
            self.refused(NoInner, {}, needless_rows, Strict(2, rows))
        self.refused(NoInner, {}, needless_rows, Strict(1, [[0]]))


if __name__ == "__main__":
    unittest.main()
