"""[10.6], [10.7] The bench."""

import inspect
import unittest
from random import Random
from unittest.mock import patch

from helping import NO_WHOLES, Case
from samples import narrow_row, some_claim, stick_row
from test_changes import NO_CHANGES, some_change
from test_stickclaims import some_claim as some_stick_claim

from untoldgaps import wedges
from untoldgaps.bench import Bench
from untoldgaps.changes import apply_changes
from untoldgaps.errors import BadChange, BadClaim, Long, NoNumber, NoWall, Wide
from untoldgaps.rows import Row
from untoldgaps.stickclaims import decide_sticking
from untoldgaps.verdicts import Sure, decide_claim

ROW = Row([1, 1, 1], [3, 0, 1])
WIDE = Row([1] * 5, [4, 3, 2, 1, 0])


class Broken(Exception):
    pass


class BenchCase(Case):
    def state(self, bench):
        rows = [(row.weights, row.speeds, row.wall) for row in (bench.start, bench.now)]
        return repr((rows, bench.kept, bench.log))

    def keeps(self, bench, kept):
        """Checks what a bench keeps: the changes with their numbers, and the row behind them."""
        self.is_same(bench.kept, tuple(kept))
        self.is_same(len(bench), len(kept))
        self.is_same([pair for pair in bench], list(kept))
        self.assertTrue(bench.now == apply_changes(bench.start, [change for _, change in kept]))


def told(change):
    """A change as it is kept."""
    kind, ball, worth = change
    if kind == "weight":
        return (kind, ball, worth)
    return (kind, ball, apply_changes(Row([1, 1], [0, 0]), [("speed", 0, worth)]).speeds[0])


class PutTest(BenchCase):
    def test_at_first(self):
        bench = Bench(ROW)
        self.assertIs(bench.start, ROW)
        self.assertTrue(bench.now == ROW)
        self.is_same((bench.kept, bench.log), ((), ()))
        self.keeps(bench, [])

    def test_put_and_take_back(self):
        bench = Bench(ROW)
        self.is_same(bench.put(["speed", 2, (4, 2)]), 1)
        self.is_same(bench.put(("weight", 0, 3)), 2)
        self.is_same(bench.put(("speed", 2, (1, 2))), 3)
        one, two, three = ("speed", 2, (2, 1)), ("weight", 0, 3), ("speed", 2, (1, 2))
        self.keeps(bench, [(1, one), (2, two), (3, three)])
        self.is_same(bench.now.speeds, ((3, 1), (0, 1), (1, 2)))
        self.assertIsNone(bench.take_back(3))
        self.keeps(bench, [(1, one), (2, two)])
        self.is_same(bench.now.speeds, ((3, 1), (0, 1), (2, 1)))
        self.assertIsNone(bench.take_back(1))
        self.keeps(bench, [(2, two)])
        # A number is not given again.
        self.is_same(bench.put(["weight", 0, 1]), 4)
        self.keeps(bench, [(2, two), (4, ("weight", 0, 1))])
        bench.take_back(4)
        bench.take_back(2)
        self.keeps(bench, [])
        self.assertTrue(bench.now == ROW)
        self.assertIs(bench.start, ROW)
        self.is_same(bench.log, (
            ("put", 1, one), ("put", 2, two), ("put", 3, three), ("back", 3, three), ("back", 1, one),
            ("put", 4, ("weight", 0, 1)), ("back", 4, ("weight", 0, 1)), ("back", 2, two),
        ))
        self.is_same(bench.put(two), 5)

    def test_drawn(self):
        chance = Random(551)
        for _ in range(40):
            row = stick_row(chance) if chance.random() < 0.5 else narrow_row(chance)
            bench = Bench(row)
            kept, log, last = [], [], 0
            for _ in range(25):
                if kept and chance.random() < 0.45:
                    number, change = chance.choice(kept)
                    self.assertIsNone(bench.take_back(number))
                    kept.remove((number, change))
                    log.append(("back", number, change))
                else:
                    change = some_change(chance, row)
                    last += 1
                    self.is_same(bench.put(chance.choice((list, tuple))(change)), last)
                    kept.append((last, told(change)))
                    log.append(("put", last, told(change)))
                self.keeps(bench, kept)
                self.is_same(bench.log, tuple(log))
            self.assertIs(bench.start, row)

    def test_refused_calls_change_nothing(self):
        bench = Bench(ROW)
        bench.put(("speed", 0, 1))
        bench.put(("speed", 1, 2))
        bench.take_back(1)
        before = self.state(bench)
        for what, things in (
            ("change", NO_CHANGES),
            ("ball", (("speed", 3, None), ["weight", True, 1], ("weight", -1, 1))),
            ("weight", (("weight", 0, 0), ("weight", 0, 10), ["weight", 0, True])),
            ("speed", (("speed", 0, None), ["speed", 0, True], ("speed", 0, [1, 2]))),
        ):
            for thing in things:
                self.refused(BadChange, {"index": 0, "what": what}, bench.put, thing)
                self.is_same(self.state(bench), before)
        for thing in NO_WHOLES + (0, 1, 3, -1, (2, 1), 2.0):
            self.refused(NoNumber, {"number": thing}, bench.take_back, thing)
            self.is_same(self.state(bench), before)
        self.is_same(bench.put(("speed", 1, 0)), 3)

    def test_true_is_no_number(self):
        bench = Bench(ROW)
        bench.put(("speed", 0, 1))
        self.refused(NoNumber, {"number": True}, bench.take_back, True)
        bench.take_back(1)

    def test_later_changes_have_no_effect(self):
        bench = Bench(ROW)
        change = ["speed", 0, (2, 4)]
        bench.put(change)
        change[2] = 7
        self.keeps(bench, [(1, ("speed", 0, (1, 2)))])

    def test_two_benches(self):
        one, other = Bench(ROW), Bench(ROW)
        self.assertFalse(one == other)
        one.put(("speed", 0, 1))
        self.keeps(other, [])
        self.is_same(other.put(("weight", 0, 2)), 1)
        self.keeps(one, [(1, ("speed", 0, (1, 1)))])


class SureTest(BenchCase):
    def test_example(self):
        bench = Bench(ROW)
        claim = ("apart", 1, 2)
        self.is_same(bench.is_sure(claim, sticking=True), False)
        bench.put(("speed", 2, 2))
        self.is_same(bench.is_sure(claim, sticking=True), True)
        number = bench.put(("speed", 1, 2))
        self.is_same(bench.is_sure(claim, sticking=True), False)
        bench.put(("speed", 0, 1))
        self.is_same(bench.is_sure(claim, sticking=True), True)
        bench.take_back(number)
        self.is_same(bench.is_sure(claim, sticking=True), True)

    def test_against_the_verdicts(self):
        chance = Random(552)
        seen = {}
        for _ in range(120):
            row = narrow_row(chance, weights=3)
            bench = Bench(row)
            bench.put(some_change(chance, row))
            claim = some_claim(chance, row, 1)
            expected = decide_claim(bench.now, claim) == Sure()
            self.is_same(bench.is_sure(claim), expected)
            self.is_same(bench.is_sure(claim, sticking=False), expected)
            seen[False, expected] = seen.get((False, expected), 0) + 1
            row = stick_row(chance, 4)
            bench = Bench(row)
            bench.put(some_change(chance, row))
            claim = some_stick_claim(chance, row)
            expected = decide_sticking(bench.now, claim) == Sure()
            self.is_same(bench.is_sure(claim, sticking=True), expected)
            seen[True, expected] = seen.get((True, expected), 0) + 1
        self.assertEqual(len(seen), 4)

    def test_errors(self):
        bench = Bench(ROW)
        self.refused(BadClaim, {"what": "kind"}, bench.is_sure, None)
        self.refused(BadClaim, {"what": "kind"}, bench.is_sure, ("with", 0, 1))
        self.refused(BadClaim, {"what": "kind"}, bench.is_sure, ("meets", 0), sticking=True)
        self.refused(BadClaim, {"what": "pair"}, bench.is_sure, ("meets", 2))
        self.refused(Wide, {}, Bench(WIDE).is_sure, None)
        self.refused(Wide, {}, Bench(WIDE).is_sure, ("ahead", 0, 1), sticking=True)
        self.is_same(Bench(WIDE).is_sure(("with", 0, 4), sticking=True), True)
        walled = Bench(Row([1, 1], [1, 0], True))
        self.refused(NoWall, {}, walled.is_sure, None, sticking=True)
        self.is_same(walled.is_sure(("meets", 0)), True)
        with patch.object(wedges, "MOST_CLASHES", 1):
            self.refused(Long, {"count": 1}, Bench(Row([1] * 3, [1, 0, -1])).is_sure, ("meets", 0))
        parameter = inspect.signature(bench.is_sure).parameters["sticking"]
        self.is_same((parameter.default, parameter.kind.name), (False, "KEYWORD_ONLY"))


class TrialTest(BenchCase):
    def some_bench(self):
        bench = Bench(ROW)
        bench.put(("speed", 0, 1))
        bench.put(("weight", 1, 2))
        bench.take_back(1)
        return bench

    def test_ends_well(self):
        bench = self.some_bench()
        before = self.state(bench)
        with bench.trial() as held:
            self.assertIs(held, bench)
            self.is_same(held.put(("speed", 2, 9)), 3)
            held.take_back(2)
            self.is_same(held.put(["speed", 2, 8]), 4)
            self.keeps(bench, [(3, ("speed", 2, (9, 1))), (4, ("speed", 2, (8, 1)))])
            self.assertEqual(len(bench.log), 6)
        self.is_same(self.state(bench), before)
        self.keeps(bench, [(2, ("weight", 1, 2))])
        # The numbers given, too, are what they were.
        self.is_same(bench.put(("speed", 2, 7)), 3)

    def test_ends_by_an_error(self):
        bench = self.some_bench()
        before = self.state(bench)
        with self.assertRaises(Broken):
            with bench.trial():
                bench.put(("speed", 2, 9))
                raise Broken()
        self.is_same(self.state(bench), before)
        with self.assertRaises(NoNumber):
            with bench.trial() as held:
                held.take_back(2)
                held.take_back(2)
        self.is_same(self.state(bench), before)
        self.is_same(bench.put(("speed", 2, 7)), 3)

    def test_as_it_was_when_the_block_was_entered(self):
        bench = Bench(ROW)
        trial = bench.trial()
        bench.put(("speed", 0, 1))
        before = self.state(bench)
        with trial as held:
            held.put(("speed", 0, 2))
        self.is_same(self.state(bench), before)
        self.is_same(bench.put(("speed", 0, 2)), 2)

    def test_trials_within_trials(self):
        bench = self.some_bench()
        states = [self.state(bench)]
        with bench.trial():
            bench.put(("speed", 2, 9))
            states.append(self.state(bench))
            with self.assertRaises(Broken):
                with bench.trial():
                    bench.put(("speed", 1, 5))
                    with bench.trial() as held:
                        held.take_back(2)
                    raise Broken()
            self.is_same(self.state(bench), states[1])
            self.is_same(bench.put(("speed", 2, 5)), 4)
        self.is_same(self.state(bench), states[0])

    def test_tried(self):
        bench = self.some_bench()
        before = self.state(bench)

        def call(held):
            self.assertIs(held, bench)
            number = held.put(("speed", 2, 9))
            return [number, held.kept, held.tried(lambda inner: inner.put(("weight", 0, 9)))]

        kept = ((2, ("weight", 1, 2)), (3, ("speed", 2, (9, 1))))
        self.is_same(bench.tried(call), [3, kept, 4])
        self.is_same(self.state(bench), before)
        self.assertIsNone(bench.tried(lambda held: None))

        def broken(held):
            held.put(("speed", 2, 9))
            raise Broken()

        with self.assertRaises(Broken):
            bench.tried(broken)
        self.is_same(self.state(bench), before)
        self.refused(BadChange, {"index": 0, "what": "ball"}, bench.tried, lambda held: held.put(("speed", 9, 9)))
        self.is_same(self.state(bench), before)
        self.is_same(bench.put(("speed", 2, 7)), 3)


if __name__ == "__main__":
    unittest.main()
