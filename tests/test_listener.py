"""[9.10] Listeners."""

import inspect
import unittest
from random import Random
from unittest.mock import patch

from helping import NO_SEQUENCES, Case
from oracle import fact_is_true, whole_run
from samples import heard_cases, some_fact

from untoldgaps import wedges
from untoldgaps.errors import BadClaim, BadFact, Long, NotHeard, NotTrue, TooMany, Wide
from untoldgaps.facts import check_fact
from untoldgaps.heard import decide_heard, fitting_words
from untoldgaps.listener import Listener
from untoldgaps.rows import Row
from untoldgaps.verdicts import Mixed, Never, Sure

ROW = Row((1, 1, 1), (3, 0, -1))
WIDE = Row([1] * 5, [0] * 5)


class ListenerCase(Case):
    def state(self, listener):
        return repr((listener.most, listener.facts, listener.fits))

    def hears(self, listener, facts):
        """Checks that these facts, in this order, are what a listener has heard, with gaps that fit them."""
        self.is_same(listener.facts, tuple([check_fact(listener.row, fact) for fact in facts]))
        self.is_same(len(listener), len(facts))
        self.is_same([fact for fact in listener], list(listener.facts))
        words = [word for word, _ in fitting_words(listener.row, facts)]
        self.is_same([word for word, _ in listener.fits], words)
        self.assertIs(listener.fits.__class__, tuple)
        for word, gaps in listener.fits:
            clashes, border, _ = whole_run(listener.row, gaps)
            self.assertIsNone(border)
            self.is_same(tuple([pair for _, pair, _ in clashes]), word)
            for fact in facts:
                self.assertTrue(fact_is_true(listener.row, gaps, clashes, fact))


class HearTest(ListenerCase):
    def test_at_first(self):
        listener = Listener(ROW)
        self.assertIs(listener.row, ROW)
        self.is_same(listener.most, 400)
        self.is_same(listener.facts, ())
        self.hears(listener, [])
        self.is_same(Listener(ROW, most=2).most, 2)

    def test_hear_and_forget(self):
        listener = Listener(ROW)
        self.assertIsNone(listener.hear(["gaps", 0, 1, 0, (6, 2)]))
        self.hears(listener, [("gaps", 0, 1, 0, 3)])
        self.assertIsNone(listener.hear(("count", 3)))
        self.assertIsNone(listener.hear(["word", [0]]))
        self.hears(listener, [("gaps", 0, 1, 0, 3), ("count", 3), ("word", (0,))])
        self.assertIsNone(listener.forget(["count", 3]))
        self.hears(listener, [("gaps", 0, 1, 0, 3), ("word", (0,))])
        self.assertIsNone(listener.forget(("gaps", 0, 1, (0, 7), (9, 3))))
        self.hears(listener, [("word", (0,))])
        listener.forget(("word", (0,)))
        self.hears(listener, [])

    def test_the_first_of_the_same_is_forgotten(self):
        listener = Listener(ROW)
        facts = [("count", 3), ("word", [0]), ("count", 3), ("exact", 1, 2, 2)]
        for fact in facts:
            listener.hear(fact)
        self.hears(listener, facts)
        listener.forget(("count", 3))
        self.hears(listener, facts[1:])
        listener.forget(("count", 3))
        self.hears(listener, [facts[1], facts[3]])
        self.refused(NotHeard, {"fact": ("count", 3)}, listener.forget, ("count", 3))

    def test_drawn(self):
        chance = Random(521)
        seen = {"heard": 0, "not true": 0, "forgotten": 0, "not heard": 0}
        for row, _, clashes in heard_cases(522, 60, 0):
            listener = Listener(row)
            facts = []
            for _ in range(8):
                fact = some_fact(chance, row, clashes)
                before = self.state(listener)
                if chance.random() < 0.7:
                    if fitting_words(row, facts + [fact]):
                        self.assertIsNone(listener.hear(fact))
                        facts.append(fact)
                        seen["heard"] += 1
                    else:
                        self.refused(NotTrue, {"fact": fact}, listener.hear, fact)
                        self.is_same(self.state(listener), before)
                        seen["not true"] += 1
                elif facts and chance.random() < 0.7:
                    fact = chance.choice(facts)
                    told = [check_fact(row, each) for each in facts]
                    del facts[told.index(check_fact(row, fact))]
                    self.assertIsNone(listener.forget(fact))
                    seen["forgotten"] += 1
                elif check_fact(row, fact) not in listener.facts:
                    self.refused(NotHeard, {"fact": fact}, listener.forget, fact)
                    self.is_same(self.state(listener), before)
                    seen["not heard"] += 1
            self.hears(listener, facts)
        self.assertGreater(min(seen.values()), 20)

    def test_later_changes_have_no_effect(self):
        listener = Listener(ROW)
        beginning = [0]
        fact = ["word", beginning]
        listener.hear(fact)
        beginning.append(1)
        fact[0] = "silent"
        self.hears(listener, [("word", (0,))])

    def test_two_listeners(self):
        one, other = Listener(ROW), Listener(ROW, most=7)
        one.hear(("word", [0]))
        other.hear(("word", [1]))
        one.hear(("count", 3))
        self.hears(one, [("word", (0,)), ("count", 3)])
        self.hears(other, [("word", (1,))])
        other.forget(("word", [1]))
        self.hears(one, [("word", (0,)), ("count", 3)])
        self.hears(other, [])
        self.is_same((one.most, other.most), (400, 7))
        self.assertFalse(Listener(ROW) == Listener(ROW))


class DecideTest(ListenerCase):
    def test_decide(self):
        listener = Listener(ROW)
        self.assertIs(listener.decide(("first", 0)).__class__, Mixed)
        listener.hear(("gaps", 0, 1, 0, 3))
        self.assertTrue(listener.decide(("first", 0)) == Sure())
        self.assertTrue(listener.decide(("first", 1)) == Never())
        listener.forget(("gaps", 0, 1, 0, 3))
        told = listener.decide(("first", 1))
        expected = decide_heard(ROW, [], ("first", 1))
        self.is_same((told.yes, told.no), (expected.yes, expected.no))
        for thing in NO_SEQUENCES + (("first", 2),):
            before = self.state(listener)
            what = "pair" if thing == ("first", 2) else "kind"
            self.refused(BadClaim, {"what": what}, listener.decide, thing)
            self.is_same(self.state(listener), before)


class Broken(Exception):
    pass


class TrialTest(ListenerCase):
    def test_ends_well(self):
        listener = Listener(ROW)
        listener.hear(("count", 3))
        before = self.state(listener)
        seen = []

        def action(heard):
            self.assertIs(heard, listener)
            heard.hear(("word", [0]))
            heard.forget(("count", 3))
            seen.append(heard.facts)
            return ["told", heard.decide(("first", 0)) == Sure()]

        self.is_same(listener.trial(action), ["told", True])
        self.is_same(seen, [(("word", (0,)),)])
        self.is_same(self.state(listener), before)
        self.hears(listener, [("count", 3)])
        self.assertIsNone(listener.trial(lambda heard: None))
        self.assertIs(listener.trial(lambda heard: heard), listener)

    def test_ends_by_an_error(self):
        listener = Listener(ROW)
        listener.hear(("count", 3))
        before = self.state(listener)

        def action(heard):
            heard.hear(("word", [0]))
            raise Broken()

        with self.assertRaises(Broken):
            listener.trial(action)
        self.is_same(self.state(listener), before)
        self.refused(NotTrue, {"fact": ("count", 2)}, listener.trial, lambda heard: heard.hear(("count", 2)))
        self.is_same(self.state(listener), before)

    def test_trials_within_trials(self):
        listener = Listener(ROW)

        def inner(heard):
            heard.forget(("word", [0]))
            heard.hear(("word", [1]))
            return heard.facts

        def outer(heard):
            heard.hear(("word", [0]))
            told = heard.trial(inner)
            return told, heard.facts

        self.is_same(listener.trial(outer), ((("word", (1,)),), (("word", (0,)),)))
        self.hears(listener, [])


class ErrorsTest(ListenerCase):
    def test_constructor(self):
        self.refused(Wide, {}, Listener, WIDE)
        self.refused(Wide, {}, Listener, WIDE, most=0)
        self.refused(TooMany, {"most": 1}, Listener, ROW, most=1)
        Listener(ROW, most=2)
        with patch.object(wedges, "MOST_CLASHES", 2):
            self.refused(Long, {"count": 2}, Listener, ROW)
        parameter = inspect.signature(Listener).parameters["most"]
        self.is_same((parameter.default, parameter.kind.name), (400, "KEYWORD_ONLY"))

    def test_bad_facts(self):
        listener = Listener(ROW)
        listener.hear(("count", 3))
        before = self.state(listener)
        for what, fact in (
            ("fact", None),
            ("fact", ("first", 0)),
            ("number", ("count", 801)),
            ("word", ("word", [2])),
            ("pair", ["silent", 2]),
            ("low", ("gaps", 0, 1, -1, 3)),
            ("high", ("gaps", 0, 1, 1, 1)),
            ("ratio", ("exact", 1, 2, 0)),
        ):
            self.refused(BadFact, {"what": what}, listener.hear, fact)
            self.refused(BadFact, {"what": what}, listener.forget, fact)
            self.is_same(self.state(listener), before)

    def test_twelve_facts(self):
        listener = Listener(ROW)
        for _ in range(12):
            listener.hear(("count", 3))
        before = self.state(listener)
        # A bad fact comes ahead of one too many, and this ahead of one that is not true.
        self.refused(BadFact, {"what": "facts"}, listener.hear, ("count", 3))
        self.refused(BadFact, {"what": "facts"}, listener.hear, ("count", 2))
        self.refused(BadFact, {"what": "number"}, listener.hear, ("count", -1))
        self.is_same(self.state(listener), before)
        listener.forget(("count", 3))
        listener.hear(("word", [0]))
        self.hears(listener, [("count", 3)] * 11 + [("word", (0,))])

    def test_facts_as_they_were_passed(self):
        listener = Listener(ROW)
        for fact in (["count", 2], ["gaps", 0, 1, (6, 2), (10, 3)], ["word", [0, 0]]):
            with self.assertRaises(NotHeard) as caught:
                listener.forget(fact)
            self.assertIs(caught.exception.fact, fact)
        listener.hear(("word", (0,)))
        for fact in (["count", 2], ["gaps", 0, 1, (6, 2), (10, 3)], ["word", [1]], ("exact", 1, 2, (2, 4))):
            with self.assertRaises(NotTrue) as caught:
                listener.hear(fact)
            self.assertIs(caught.exception.fact, fact)
        self.hears(listener, [("word", (0,))])


if __name__ == "__main__":
    unittest.main()
