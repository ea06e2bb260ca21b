"""[2.4], [2.5] Moves."""

import unittest
from itertools import islice, product
from random import Random

from helping import NO_SEQUENCES, NO_WHOLES, Case

from untoldgaps.errors import BadWord
from untoldgaps.moves import (
    are_far_apart,
    arrangements,
    do_same_by_moves,
    reduced_word,
    steps_to_reduced,
    undone_word,
)
from untoldgaps.rows import Row
from untoldgaps.tables import same_tables

CALLS = (undone_word, reduced_word, steps_to_reduced, lambda word: list(arrangements(word)))


def far(one, other):
    return abs(one - other) >= 2


def neighbours(word, strikes):
    """All words to which one move leads."""
    for at in range(len(word) - 1):
        if far(word[at], word[at + 1]):
            yield word[:at] + (word[at + 1], word[at]) + word[at + 2 :]
        if strikes and word[at] == word[at + 1]:
            yield word[:at] + word[at + 2 :]


def reachable(word, strikes=True):
    """All words to which moves lead, the word itself among them."""
    met = {tuple(word)}
    waiting = [tuple(word)]
    while waiting:
        for other in neighbours(waiting.pop(), strikes):
            if other not in met:
                met.add(other)
                waiting.append(other)
    return met


def walked(word, steps):
    """Where told steps lead; fails at a step that is no move."""
    word = list(word)
    for kind, at in steps:
        assert 0 <= at < len(word) - 1, (kind, at)
        if kind == "strike":
            assert word[at] == word[at + 1]
            del word[at : at + 2]
        else:
            assert kind == "exchange" and far(word[at], word[at + 1])
            word[at], word[at + 1] = word[at + 1], word[at]
    return tuple(word)


class CheckTest(Case):
    def test_no_words(self):
        for call in CALLS:
            for thing in NO_SEQUENCES + ([0] * 801, (99,) * 801):
                self.refused(BadWord, {"index": 0, "what": "word"}, call, thing)
            for thing in NO_WHOLES + (-2, 39, 10**30):
                self.refused(BadWord, {"index": 0, "what": "pair"}, call, [thing])
                self.refused(BadWord, {"index": 2, "what": "pair"}, call, (0, 5, thing, None))

    def test_two_words(self):
        for thing in NO_SEQUENCES + ([0] * 801,):
            self.refused(BadWord, {"index": 0, "what": "word"}, do_same_by_moves, thing, [0, 0, 99])
            self.refused(BadWord, {"index": 0, "what": "word"}, do_same_by_moves, [0, 0], thing)
        for thing in NO_WHOLES + (-2, 39):
            self.refused(BadWord, {"index": 2, "what": "pair"}, do_same_by_moves, [0, 0, thing], [thing])
            self.refused(BadWord, {"index": 0, "what": "pair"}, do_same_by_moves, [0, 0], [thing])

    def test_two_pairs(self):
        for thing in NO_WHOLES + (-2, 39):
            self.refused(BadWord, {"index": 0, "what": "pair"}, are_far_apart, thing, thing)
            self.refused(BadWord, {"index": 1, "what": "pair"}, are_far_apart, 38, thing)

    def test_what_is_passed_stays(self):
        word = [2, 0, 1, 1, 2]
        for call in CALLS:
            call(word)
        self.is_same(word, [2, 0, 1, 1, 2])


class WordsTest(Case):
    def test_undone_word(self):
        self.is_same(undone_word([0, 1, -1]), (-1, 1, 0))
        self.is_same(undone_word(()), ())
        self.is_same(undone_word([3] * 800), (3,) * 800)

    def test_are_far_apart(self):
        for one in range(-1, 6):
            for other in range(-1, 6):
                self.is_same(are_far_apart(one, other), far(one, other))
        self.is_same(are_far_apart(-1, 38), True)

    def test_reduced_word(self):
        self.is_same(reduced_word([2, 0, 1, 1, 2]), (0,))
        self.is_same(reduced_word([]), ())
        self.is_same(reduced_word((5,)), (5,))
        self.is_same(reduced_word([0, 0]), ())
        self.is_same(reduced_word([2, 0]), (0, 2))
        self.is_same(reduced_word([0, -1]), (0, -1))
        self.is_same(reduced_word([1, -1]), (-1, 1))
        self.is_same(reduced_word([0, 1, 0, 1]), (0, 1, 0, 1))
        self.is_same(reduced_word([7] * 800), ())
        self.is_same(reduced_word([7, 7] * 400), ())
        self.is_same(reduced_word([0, 1] * 400), (0, 1) * 400)
        self.is_same(reduced_word([38, 0, -1, 0, 0, 38]), (0, -1))

    def test_against_all_moves(self):
        words = [word for length in range(6) for word in product((0, 1, 2, 4), repeat=length)]
        chance = Random(51)
        words += [tuple(chance.choices((-1, 0, 1, 2, 3), k=9)) for _ in range(60)]
        for word in words:
            found = reachable(word)
            shortest = min(map(len, found))
            least = min(other for other in found if len(other) == shortest)
            self.is_same(reduced_word(word), least)
            self.is_same(reduced_word(list(word)), least)
            self.assertEqual(walked(word, steps_to_reduced(word)), least)

    def test_do_same_by_moves(self):
        self.is_same(do_same_by_moves([2, 0, 1, 1, 2], [0]), True)
        self.is_same(do_same_by_moves([0, 1], [1, 0]), False)
        self.is_same(do_same_by_moves([], (3, 3)), True)
        self.is_same(do_same_by_moves([0, 1, 0], [1, 0, 1]), False)
        chance = Random(52)
        row = Row((2, 3, 5, 7), (0, 0, 0, 0))
        for _ in range(100):
            one, other = [chance.choices((0, 1, 2), k=5) for _ in range(2)]
            self.is_same(do_same_by_moves(one, other), bool(reachable(one) & reachable(other)))
            if do_same_by_moves(one, other):
                self.assertTrue(same_tables(row, one, other))
            self.assertTrue(same_tables(row, one, reduced_word(one)))

    def test_steps(self):
        chance = Random(53)
        for length in (0, 1, 2, 5, 30, 200):
            for _ in range(10):
                word = [chance.randint(-1, 38) for _ in range(length)]
                word += undone_word(word[: (200 - length) // 2]) if length < 100 else ()
                steps = steps_to_reduced(word)
                self.assertIs(steps.__class__, tuple)
                for step in steps:
                    self.assertIs(step.__class__, tuple)
                    self.assertIs(step[1].__class__, int)
                self.assertEqual(walked(word, steps), reduced_word(word))
        self.is_same(steps_to_reduced([1, 1]), (("strike", 0),))
        self.is_same(steps_to_reduced([2, 0]), (("exchange", 0),))
        self.is_same(steps_to_reduced([0, 2]), ())

    def test_long_words(self):
        chance = Random(54)
        word = [chance.randint(-1, 38) for _ in range(800)]
        self.assertEqual(walked(word, steps_to_reduced(word)), reduced_word(word))
        self.is_same(reduced_word(word[:400] + word[:400][::-1]), ())


class ArrangementsTest(Case):
    def test_small_ones(self):
        self.is_same(list(arrangements([])), [()])
        self.is_same(list(arrangements((4,))), [(4,)])
        self.is_same(list(arrangements([0, 1])), [(0, 1)])
        self.is_same(list(arrangements([2, 0])), [(0, 2), (2, 0)])
        self.is_same(list(arrangements([1, 1, -1])), [(-1, 1, 1), (1, -1, 1), (1, 1, -1)])
        self.is_same(list(arrangements([0, 2, 1, 2, 0])), [
            (0, 2, 1, 0, 2),
            (0, 2, 1, 2, 0),
            (2, 0, 1, 0, 2),
            (2, 0, 1, 2, 0),
        ])

    def test_no_strikes(self):
        self.is_same(list(arrangements([3, 3])), [(3, 3)])

    def test_against_all_exchanges(self):
        chance = Random(55)
        words = [word for length in range(5) for word in product((0, 1, 2, 4), repeat=length)]
        words += [tuple(chance.choices((-1, 0, 1, 2, 3, 5), k=7)) for _ in range(40)]
        for word in words:
            self.is_same(list(arrangements(word)), sorted(reachable(word, strikes=False)))

    def test_one_after_another(self):
        # There are 24! arrangements here: they must not be made ahead of the first ones.
        word = list(range(0, 38, 2)) + list(range(0, 10, 2))
        first = list(islice(arrangements(word[::-1]), 50))
        self.assertEqual(first[0], tuple(sorted(word)))
        self.assertEqual(first, sorted(set(first)))
        self.assertEqual(len(first), 50)

    def test_eight_hundred(self):
        self.is_same(list(arrangements([0, 1] * 400)), [(0, 1) * 400])
        first = list(islice(arrangements([0, 1, 5, 1] * 200), 3))
        self.assertEqual([len(word) for word in first], [800] * 3)
        self.assertEqual(first, sorted(set(first)))


if __name__ == "__main__":
    unittest.main()
