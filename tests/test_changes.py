"""[10.1] Changes of rows."""

import unittest
from random import Random

from helping import NO_RATIOS, NO_SEQUENCES, NO_WHOLES, Case
from samples import some_row

from untoldgaps.changes import apply_changes
from untoldgaps.errors import BadChange
from untoldgaps.rows import Row

ROW = Row([1, 2, 3], [(1, 2), 0, -1])
NO_CHANGES = NO_SEQUENCES + (
    (),
    [],
    ("weight",),
    ("weight", 0),
    ("weight", 0, 1, 1),
    ("speed", 0),
    ("speeds", 0, 1),
    ("Weight", 0, 1),
    (None, 0, 1),
    (0, 0, 1),
    (True, 0, 1),
    (["weight"], 0, 1),
    (("speed",), 0, 1),
    (b"speed", 0, 1),
    ({}, 0, 1),
    ("wall", 0, True),
    "speed",
    "abc",
    "w01",
)


def some_change(chance, row):
    ball = chance.randrange(len(row))
    if chance.random() < 0.4:
        return ("weight", ball, chance.randint(1, 9))
    return ("speed", ball, chance.choice((chance.randint(-3, 3), (chance.randint(-9, 9), chance.randint(1, 4)))))


class ApplyTest(Case):
    def test_each_kind(self):
        told = apply_changes(ROW, [("weight", 0, 9)])
        self.assertTrue(told == Row([9, 2, 3], [(1, 2), 0, -1]))
        told = apply_changes(ROW, (["speed", 2, (6, 4)],))
        self.assertTrue(told == Row([1, 2, 3], [(1, 2), 0, (3, 2)]))
        self.is_same(told.speeds, ((1, 2), (0, 1), (3, 2)))
        self.assertTrue(apply_changes(ROW, []) == ROW)
        self.assertTrue(apply_changes(ROW, [("weight", 1, 2), ("speed", 1, 0)]) == ROW)
        walled = Row([4], [-1], True)
        self.assertTrue(apply_changes(walled, [["speed", 0, 5], ("weight", 0, 1)]) == Row([1], [5], True))

    def test_one_after_another(self):
        told = apply_changes(ROW, [("speed", 0, 1), ("weight", 0, 5), ("speed", 0, 2), ("weight", 2, 1), ("speed", 0, 7)])
        self.assertTrue(told == Row([5, 2, 1], [7, 0, -1]))

    def test_drawn(self):
        chance = Random(531)
        for _ in range(200):
            row = some_row(chance)
            changes = [some_change(chance, row) for _ in range(chance.randint(0, 6))]
            weights, speeds = list(row.weights), list(row.speeds)
            for kind, ball, worth in changes:
                (weights if kind == "weight" else speeds)[ball] = worth
            before = (row.weights, row.speeds, row.wall)
            told = apply_changes(row, changes)
            self.assertIs(told.__class__, Row)
            self.assertTrue(told == Row(weights, speeds, row.wall))
            self.are_told(told.speeds)
            self.is_same((row.weights, row.speeds, row.wall), before)

    def test_what_is_passed_stays(self):
        changes = [["speed", 0, (2, 4)], ["weight", 0, 3]]
        apply_changes(ROW, changes)
        self.is_same(changes, [["speed", 0, (2, 4)], ["weight", 0, 3]])
        self.is_same(ROW.speeds, ((1, 2), (0, 1), (-1, 1)))


class ErrorsTest(Case):
    def bad(self, index, what, changes, row=ROW):
        self.refused(BadChange, {"index": index, "what": what}, apply_changes, row, changes)

    def test_sequence(self):
        for thing in NO_SEQUENCES:
            self.bad(0, "sequence", thing)

    def test_change(self):
        for thing in NO_CHANGES:
            self.bad(0, "change", [thing])
            self.bad(2, "change", [("weight", 0, 1), ("speed", 0, 1), thing, None])

    def test_ball(self):
        for thing in NO_WHOLES + (-1, 3, 10**30):
            self.bad(0, "ball", [("weight", thing, 0)])
            self.bad(1, "ball", (("speed", 0, 1), ["speed", thing, None]))
        self.bad(0, "ball", [("speed", 1, 1)], Row([1], [1], True))

    def test_worth(self):
        for thing in NO_WHOLES + (0, 10, -1, (2, 1)):
            self.bad(0, "weight", [("weight", 0, thing)])
            self.bad(1, "weight", [("weight", 0, 1), ("weight", 0, thing), ("speed", 0, None)])
        for thing in NO_RATIOS:
            self.bad(0, "speed", [("speed", 0, thing)])
            self.bad(1, "speed", [("speed", 0, 1), ["speed", 2, thing], None])

    def test_change_by_change(self):
        self.bad(0, "speed", [("speed", 0, True), None])
        self.bad(0, "ball", [("speed", 9, True), ("weight", 0, 99)])
        self.bad(1, "weight", [("weight", 0, 9), ("weight", 0, 99), None])


if __name__ == "__main__":
    unittest.main()
