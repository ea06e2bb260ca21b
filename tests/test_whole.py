"""Part 0 over the whole package: the interface, equality, values that stay, the order of errors."""

import ast
import copy
import importlib
import inspect
import pathlib
import unittest

from helping import Case

import untoldgaps
from untoldgaps import errors
from untoldgaps.begins import Begin, Fewest, begin_of
from untoldgaps.bench import Bench
from untoldgaps.changes import apply_changes
from untoldgaps.claimratios import ratios_with
from untoldgaps.claims import check_claim
from untoldgaps.clashing import after_word, check_word, first_not_coming
from untoldgaps.closedrows import closed_moments
from untoldgaps.ends import Extremes, ends_with, speed_extremes
from untoldgaps.errors import (
    BadChange,
    BadClaim,
    BadFact,
    BadGaps,
    BadMoment,
    BadWish,
    BadWord,
    NoBall,
    NoPair,
    NotClosed,
    NothingFits,
    NoWall,
    TooMany,
    TwoGaps,
    Unlike,
    Wide,
)
from untoldgaps.facts import check_fact, check_facts, fact_holds
from untoldgaps.forms import Forms, forms_of, longer_forms, value_of
from untoldgaps.heard import decide_fact, decide_heard, explain_moments, fitting_words, needless_facts
from untoldgaps.histories import History, history_of, least_word, same_history
from untoldgaps.likeballs import ball_of, like_moments, like_standing, line_of
from untoldgaps.likeclaims import decide_like
from untoldgaps.likeness import Kin
from untoldgaps.listener import Listener
from untoldgaps.meetings import Ahead, Behind, Either, meeting_moment
from untoldgaps.mends import Mend, good_selections, least_mends, mends_fault, spoilers
from untoldgaps.moves import arrangements, reduced_word, steps_to_reduced, undone_word
from untoldgaps.oneend import OneEnd, TwoEnds, ends_fault
from untoldgaps.orders import returns_after
from untoldgaps.ranges import gap_ranges, moment_ranges
from untoldgaps.ratios import is_ratio, is_whole, lowest_row
from untoldgaps.rows import Row, check_gaps
from untoldgaps.rowtext import case_text, gaps_text
from untoldgaps.runs import Border, Run, clashes_of, next_clash, run_fault, run_of
from untoldgaps.stickclaims import decide_sticking
from untoldgaps.sticking import Parting, joined_with, parting_fault, speed_bounds
from untoldgaps.stickorders import StickOrder, orders_fault, surely_last
from untoldgaps.stickruns import Sticking, join_forms, join_moments, stick_run, stick_standing
from untoldgaps.stretches import Stretch, stretch_of, stretches_fault
from untoldgaps.strict import Empty, Inner, Strict, strict_fault
from untoldgaps.tables import Table, same_tables, table_of, tells_apart
from untoldgaps.tracks import gaps_at, moved_on, reach_of, standing_at, track_of, turned_at
from untoldgaps.turns import made_run, turn_ratios
from untoldgaps.verdicts import Mixed, Never, Sure, claim_follows, decide_claim, wedges_with
from untoldgaps.wedges import Level, Wedge, wedge_of, word_gaps
from untoldgaps.wordtext import word_text

# Module by module the names of the interface with their arguments; a class with its methods behind it.
INTERFACE = {
    "ratios": "is_whole(thing) is_ratio(thing) ratio_of(thing) lowest_terms(top,bottom) plus(one,other)"
    " minus(one,other) times(one,other) over(one,other) compare(one,other) lowest_row(numbers)",
    "rows": "check_gaps(row,gaps) check_moment(moment) check_ball(row,ball) check_narrow(row)"
    " Row(weights,speeds,wall=False).__len__() .__eq__(other) .with_speeds(speeds) .turned() .quicker(factor)"
    " .mirrored() .hurried(more) .heavier(factor)",
    "likeness": "least_row(row) are_kin(one,other) kin_of(one,other) lead_along(kin,row)"
    " Kin(factor,pace,more).__eq__(other)",
    "rowtext": "ratio_text(thing) row_text(row) gaps_text(gaps) case_text(row,gaps) parse_row(text) parse_gaps(text)"
    " parse_case(text)",
    "wordtext": "word_text(word) parse_word(text)",
    "clashing": "after_clash(row,pair) check_word(row,word) after_word(row,word) coming_pairs(row)"
    " closing_speed(row,pair) first_not_coming(row,word)",
    "moves": "undone_word(word) are_far_apart(one,other) reduced_word(word) steps_to_reduced(word)"
    " do_same_by_moves(one,other) arrangements(word)",
    "tables": "Table(rows).__len__() .__eq__(other) .__mul__(other) .of_speeds(speeds) rest_table(row)"
    " table_of(row,word) is_rest_word(row,word) same_tables(row,one,other) tells_apart(row,one,other)",
    "orders": "returns_after(row,word) all_tables(row)",
    "runs": "Border(moment,pairs,word).__eq__(other) Run(word,moments,speeds,gaps).__eq__(other) .__len__() .__iter__()"
    " next_clash(row,gaps) clashes_of(row,gaps) run_of(row,gaps) run_fault(row,gaps,result)",
    "tracks": "standing_at(row,gaps,moment) gaps_at(row,gaps,moment) moved_on(row,gaps,moment)"
    " turned_at(row,gaps,moment) track_of(row,gaps,ball) reach_of(row,gaps,ball)",
    "forms": "forms_of(row,word) longer_forms(row,forms,pair) value_of(form,gaps)",
    "stretches": "closings_of(row) border_ratios(row) all_stretches(row) stretch_of(row,gaps)"
    " stretches_fault(row,stretches) Stretch(low,high,word,speeds).__eq__(other)",
    "turns": "turn_ratios(row,first) most_turns(row) turn_word(row,first) all_turn_words(row) made_run(row,word)",
    "closedrows": "orders_of(row) is_closed(row) roots_of(row) closed_count(row) closed_end(row)"
    " closed_moments(row,gaps)",
    "oneend": "decide_ends(row) ends_fault(row,result) OneEnd(roots).__eq__(other)"
    " TwoEnds(index,speeds,one,other).__eq__(other)",
    "strict": "find_inner(strict) strict_fault(strict,result) needless_rows(strict) Strict(size,rows).with_row(numbers)"
    " .holds_at(gaps) .__eq__(other) Inner(gaps).__eq__(other) Empty(weights).__eq__(other)",
    "corners": "find_corners(strict) tight_rows(strict) share_of(strict)",
    "wedges": "all_wedges(row,*,most=400) wedge_of(row,gaps,*,most=400) word_gaps(row,word)"
    " Wedge(word,rows,corners,gaps,speeds).__eq__(other) Level(moment,pairs).__eq__(other)",
    "histories": "same_history(one,other) least_word(word) all_histories(row,*,most=400)"
    " history_of(row,gaps,*,most=400) History(word,words,rows,corners,gaps,speeds).__eq__(other)",
    "claims": "check_claim(row,claim) claim_holds(claim,word,speeds)",
    "verdicts": "decide_claim(row,claim,*,most=400) wedges_with(row,claim,*,most=400)"
    " claim_follows(row,one,other,*,most=400) clash_ranges(row,*,most=400) sure_firsts(row,*,most=400)"
    " Sure().__eq__(other) Never().__eq__(other) Mixed(yes,no).__eq__(other)",
    "ends": "all_ends(row,*,most=400) ends_with(row,claim,*,most=400) speed_extremes(row,ball,*,most=400)"
    " fewest_clashes(row,*,most=400) most_clashes(row,*,most=400)"
    " Extremes(least,least_gaps,greatest,greatest_gaps).__eq__(other)",
    "claimratios": "ratios_with(row,claim)",
    "likeballs": "like_end(row) like_counts(row) like_standing(row,gaps,moment) line_of(row,gaps,ball,moment)"
    " ball_of(row,gaps,line,moment) like_moments(row,gaps)",
    "meetings": "Ahead().__eq__(other) Behind().__eq__(other) Either(ahead,behind).__eq__(other) meetings_of(row)"
    " meeting_moment(row,gaps,meeting) meeting_order(row,one,other) sure_meeting_orders(row)",
    "begins": "Begin(place,gaps,speeds).__eq__(other) begin_of(places,speeds,moment,wall=False)"
    " Fewest(many,gaps).__eq__(other) fewest_of_pair(row,pair)",
    "likeclaims": "like_meetings(row) decide_like(row,claim)",
    "sticking": "Parting(lots,means).__eq__(other) pooled_parting(row) parting_fault(row,parting) joined_with(row,ball)"
    " lost_sum(row) speed_bounds(row,ball)",
    "stickruns": "Sticking(joinings,parting) stick_run(row,gaps) join_moments(row,gaps)"
    " stick_standing(row,gaps,moment) join_forms(row,pair)",
    "stickorders": "StickOrder(pairs,gaps) stick_orders(row) orders_fault(row,orders) surely_last(row,lot)",
    "stickclaims": "check_stick_claim(row,claim) decide_sticking(row,claim)",
    "facts": "check_fact(row,fact) check_facts(row,facts) fact_holds(row,gaps,fact)",
    "heard": "fitting_words(row,facts,*,most=400) decide_heard(row,facts,claim,*,most=400)"
    " decide_fact(row,facts,fact,*,most=400) needless_facts(row,facts,*,most=400)"
    " explain_moments(row,moments,*,most=400)",
    "ranges": "moment_ranges(row,facts,i,j,*,most=400) gap_ranges(row,facts,one,other,*,most=400)",
    "listener": "Listener(row,*,most=400).hear(fact) .forget(fact) .decide(claim) .trial(action) .__len__() .__iter__()",
    "changes": "apply_changes(row,changes)",
    "mends": "Mend(selection,row) good_selections(row,pool,claims,*,sticking=False,most=400)"
    " least_mends(row,pool,claims,*,sticking=False,most=400) spoilers(row,pool,claims,*,sticking=False,most=400)"
    " mends_fault(row,pool,claims,mends,*,sticking=False,most=400)",
    "bench": "Bench(row).put(change) .take_back(number) .is_sure(claim,*,sticking=False) .trial() .tried(call)"
    " .__len__() .__iter__()",
}
NUMBERS = {
    "rows": {"MOST_BALLS": 40, "MOST_WEIGHT": 9},
    "clashing": {"MOST_WORD": 800},
    "runs": {"MOST_CLASHES": 800},
    "facts": {"MOST_FACTS": 12},
}


def written(signature):
    """A signature as the interface writes it."""
    return str(signature).replace(" ", "")


class InterfaceTest(Case):
    def parts_of(self, module):
        """(name, arguments, method) of everything that the interface lists for a module; no method has the name ''."""
        kind = ""
        for part in INTERFACE[module].split(" "):
            head, _, method = part.partition(").")
            if part.startswith("."):
                head, method = "", part[1:]
            if head:
                name, _, arguments = head.rstrip(")").partition("(")
                kind = name if name[0].isupper() else kind
                yield name, f"({arguments})", ""
            if method:
                name, _, arguments = method.rstrip(")").partition("(")
                yield kind, f"({arguments})", name

    def test_names_and_arguments(self):
        for module in INTERFACE:
            place = importlib.import_module(f"untoldgaps.{module}")
            for name, arguments, method in self.parts_of(module):
                thing = getattr(place, name)
                # Defined in this very file, and methods in the class itself.
                self.assertEqual(thing.__module__, place.__name__, name)
                if method:
                    inner = arguments[1:-1]
                    arguments = f"(self,{inner})" if inner else "(self)"
                    thing = vars(thing)[method]
                self.assertEqual(written(inspect.signature(thing)), arguments, (module, name, method))

    def test_numbers(self):
        for module, numbers in NUMBERS.items():
            place = importlib.import_module(f"untoldgaps.{module}")
            for name, number in numbers.items():
                self.is_same(getattr(place, name), number)

    def test_is_over_is_a_property(self):
        self.assertIsInstance(vars(Forms)["is_over"], property)
        self.assertIn("__eq__", vars(Forms))

    def test_generators(self):
        for call in (arrangements, clashes_of):
            self.assertTrue(inspect.isgeneratorfunction(call))

    def test_nothing_from_outside(self):
        """The files import nothing but the package and a few functions of math."""
        for path in pathlib.Path(untoldgaps.__path__[0]).glob("*.py"):
            for node in ast.walk(ast.parse(path.read_text())):
                self.assertNotIsInstance(node, ast.Import)
                if isinstance(node, ast.ImportFrom):
                    self.assertTrue(node.module.startswith("untoldgaps.") or node.module == "math", path.name)


ROW = Row([2, 1, 2], [1, 0, -1])
LIKE = Row((1, 1, 1), (3, 0, -1))
GAPS = ((1, 1), (2, 1))
# Of each class with equality: its attributes and others for each of them.
EQUAL = (
    (Kin, ((1, 1), (2, 1), (0, 1)), ((2, 1), (1, 1), (1, 1))),
    (Border, ((1, 1), (0, 1), (0,)), ((2, 1), (1, 2), ())),
    (Run, ((0,), ((1, 1),), ((0, 1),), ((1, 1),)), ((1,), ((2, 1),), ((1, 1),), ((3, 1),))),
    (Stretch, ((0, 1), None, (), ((0, 1),)), ((1, 1), (2, 1), (0,), ((1, 1),))),
    (OneEnd, (((1, 0), (0, 1)),), ((),)),
    (TwoEnds, (0, ((0, 1),), GAPS, GAPS[::-1]), (1, ((1, 1),), (), ())),
    (Inner, ((1, 2),), ((2, 1),)),
    (Empty, ((1, 2),), ((2, 1),)),
    (Strict, (2, ((1, -1),)), (None, ((1, 1),))),
    (Wedge, ((0,), ((1, -1),), ((1, 0), (1, 1)), (2, 1), ((0, 1),)), ((1,), (), (), (1, 1), ())),
    (Level, ((1, 1), (0, 2)), ((2, 1), (1, 3))),
    (History, ((0,), ((0,),), (), (), (1,), ((0, 1),)), ((1,), (), (1,), (1,), (2,), ())),
    (Sure, (), ()),
    (Never, (), ()),
    (Mixed, ((1, 2), (2, 1)), ((1, 1), (1, 1))),
    (Extremes, ((0, 1), (1, 1), (1, 1), (1, 2)), ((1, 2), (1, 3), (2, 1), (1, 4))),
    (Ahead, (), ()),
    (Behind, (), ()),
    (Either, (GAPS, GAPS[::-1]), ((), ())),
    (Begin, ((0, 1), GAPS, GAPS), ((1, 1), (), ())),
    (Fewest, (1, GAPS), (2, ())),
    (Parting, (((0, 1),), ((1, 1),)), ((), ())),
)
UNEQUAL = (
    lambda: Sticking((), None),
    lambda: StickOrder((), ()),
    lambda: Mend((), None),
    lambda: Listener(LIKE),
    lambda: Bench(LIKE),
)


class EqualityTest(Case):
    def compared(self, one, other, are_equal):
        self.assertIs(one == other, are_equal)
        self.assertIs(one != other, not are_equal)

    def test_classes_with_equality(self):
        for kind, attributes, others in EQUAL:
            one = kind(*attributes)
            self.compared(one, kind(*attributes), True)
            self.compared(one, one, True)
            for at, other in enumerate(others):
                if other is not None:
                    self.compared(one, kind(*attributes[:at], other, *attributes[at + 1:]), False)
            for thing in (None, attributes, attributes[:1], 1, True, "one", ROW):
                self.compared(one, thing, False)

    def test_objects_of_other_classes(self):
        """Also with the same attributes."""
        made = [kind(*attributes) for kind, attributes, _ in EQUAL]
        made += [ROW, Table([[1]]), forms_of(ROW, [0])]
        for at, one in enumerate(made):
            for place, other in enumerate(made):
                self.compared(one, other, at == place)
        self.compared(Inner((1, 2)), Empty((1, 2)), False)

    def test_rows_tables_and_forms(self):
        self.compared(Row([1, 1], [0, (2, 4)]), Row((1, 1), ((0, 3), (1, 2))), True)
        for other in (Row([1, 2], [0, (1, 2)]), Row([1, 1], [0, 1]), Row([1, 1], [0, (1, 2)], True), Row([1] * 3, [0] * 3)):
            self.compared(Row([1, 1], [0, (1, 2)]), other, False)
        self.compared(Table([[1, 0], [0, 1]]), Table((((2, 2), 0), (0, 1))), True)
        self.compared(Table([[1, 0], [0, 1]]), Table([[1, 0], [0, 2]]), False)
        self.compared(Strict(1, []), Strict(2, []), False)
        self.compared(forms_of(ROW, [0, 1]), longer_forms(ROW, forms_of(ROW, [0]), 1), True)
        self.compared(forms_of(ROW, [0, 1]), forms_of(ROW, [0]), False)
        self.compared(forms_of(ROW, [0]), forms_of(ROW.quicker(2), [0]), False)

    def test_classes_without_equality(self):
        for make in UNEQUAL:
            one = make()
            self.compared(one, make(), False)
            self.compared(one, one, True)
            self.assertNotIn("__eq__", vars(one.__class__))

    def test_no_order(self):
        made = [kind(*attributes) for kind, attributes, _ in EQUAL] + [make() for make in UNEQUAL]
        for one in made + [ROW, Table([[1]]), forms_of(ROW, [])]:
            for name in ("__lt__", "__le__", "__gt__", "__ge__"):
                self.assertNotIn(name, vars(one.__class__))
            with self.assertRaises(TypeError):
                one < one

    def test_what_constructors_keep(self):
        """Border, Run and Begin make tuples and told ratios of what they get; the others keep it as it is."""
        for kind, attributes, _ in EQUAL:
            if kind in (Border, Run, Begin, Strict):
                continue
            given = [list(value) if isinstance(value, tuple) else value for value in attributes]
            made = kind(*given)
            for value in given:
                self.assertTrue(any(value is kept for kept in vars(made).values()), kind)
        told = Border((2, 4), [0, 1], [0])
        self.is_same((told.moment, told.pairs, told.word), ((1, 2), (0, 1), (0,)))
        told = Run([0], [(2, 4)], [3], [(0, 9)])
        self.is_same((told.word, told.moments, told.speeds, told.gaps), ((0,), ((1, 2),), ((3, 1),), ((0, 1),)))
        told = Begin(2, [(2, 4)], [(0, 9)])
        self.is_same((told.place, told.gaps, told.speeds), ((2, 1), ((1, 2),), ((0, 1),)))


class ErrorClassesTest(Case):
    def test_all_are_listed(self):
        kinds = [kind for kind in vars(errors).values() if isinstance(kind, type)]
        self.assertEqual(len(kinds), 37)
        for kind in kinds:
            base = ValueError if kind is errors.GapError else errors.GapError
            self.assertEqual(kind.__bases__, (base,))


FACTS = [["word", [0]], ["between", 1, 2, 0, (6, 2)]]
WORD = [0, 1]
# Calls with lists, of which each must stay as it is.
CALLS = (
    (lowest_row, [[1, (2, 4)]]),
    (Row, [[1, 2], [(2, 4), 0]]),
    (check_gaps, [ROW, [1, (2, 4)]]),
    (gaps_text, [[1, (2, 4)]]),
    (case_text, [ROW, [1, (2, 4)]]),
    (word_text, [WORD]),
    (check_word, [ROW, WORD]),
    (after_word, [ROW, WORD]),
    (first_not_coming, [ROW, WORD]),
    (undone_word, [WORD]),
    (reduced_word, [[2, 0, 1, 1, 2]]),
    (steps_to_reduced, [[2, 0, 1, 1, 2]]),
    (lambda word: list(arrangements(word)), [[2, 0]]),
    (Table, [[[1, 0], [0, (2, 4)]]]),
    (lambda speeds: Table([[1, 0], [0, 1]]).of_speeds(speeds), [[1, (2, 4)]]),
    (table_of, [ROW, WORD]),
    (same_tables, [ROW, WORD, [1]]),
    (tells_apart, [ROW, WORD, [1]]),
    (returns_after, [ROW, WORD]),
    (run_of, [ROW, [1, (4, 2)]]),
    (next_clash, [ROW, [1, (4, 2)]]),
    (lambda row, gaps: list(clashes_of(row, gaps)), [ROW, [1, (4, 2)]]),
    (run_fault, [ROW, [1, (4, 2)], run_of(ROW, [1, 2])]),
    (standing_at, [ROW, [1, (4, 2)], (2, 4)]),
    (gaps_at, [ROW, [1, (4, 2)], (2, 4)]),
    (moved_on, [ROW, [1, (4, 2)], (2, 4)]),
    (turned_at, [ROW, [1, (4, 2)], (2, 4)]),
    (track_of, [ROW, [1, (4, 2)], 0]),
    (reach_of, [ROW, [1, (4, 2)], 0]),
    (forms_of, [ROW, WORD]),
    (value_of, [[1, (2, 4)], [3, (4, 2)]]),
    (stretch_of, [ROW, [1, (4, 2)]]),
    (stretches_fault, [ROW, [Stretch((0, 1), None, (), ())]]),
    (made_run, [ROW, WORD]),
    (closed_moments, [LIKE, [1, (4, 2)]]),
    (ends_fault, [ROW, TwoEnds(0, [1, 0, -1], [1, 2], [2, 1])]),
    (Strict, [2, [[1, (-2, 4)], (0, 1)]]),
    (lambda numbers: Strict(2, []).with_row(numbers), [[1, (-2, 4)]]),
    (lambda gaps: Strict(2, [(1, -1)]).holds_at(gaps), [[1, (2, 4)]]),
    (wedge_of, [ROW, [1, (4, 2)]]),
    (word_gaps, [ROW, WORD]),
    (same_history, [[0, 2], [2, 0]]),
    (least_word, [[2, 0]]),
    (history_of, [ROW, [1, (4, 2)]]),
    (like_standing, [LIKE, [1, (4, 2)], 1]),
    (line_of, [LIKE, [1, (4, 2)], 0, 1]),
    (ball_of, [LIKE, [1, (4, 2)], 0, 1]),
    (like_moments, [LIKE, [1, (4, 2)]]),
    (meeting_moment, [LIKE, [1, (4, 2)], ("pass", 0, 1)]),
    (begin_of, [[0, (2, 4)], [(4, 2), 0], 1]),
    (stick_run, [ROW, [1, (4, 2)]]),
    (join_moments, [ROW, [1, (4, 2)]]),
    (stick_standing, [ROW, [1, (4, 2)], 1]),
    (orders_fault, [ROW, [StickOrder((0, 1), [1, 2])]]),
    (check_fact, [LIKE, FACTS[0]]),
    (check_facts, [LIKE, FACTS]),
    (fact_holds, [LIKE, [1, (4, 2)], FACTS[1]]),
    (fitting_words, [LIKE, FACTS]),
    (decide_heard, [LIKE, FACTS, ("first", 0)]),
    (decide_fact, [LIKE, FACTS, FACTS[1]]),
    (needless_facts, [LIKE, FACTS]),
    (explain_moments, [LIKE, [1, (6, 4), 3]]),
    (moment_ranges, [LIKE, FACTS, 1, 2]),
    (gap_ranges, [LIKE, FACTS, 0, 1]),
    (apply_changes, [ROW, [["speed", 0, (2, 4)], ["weight", 0, 1]]]),
    (good_selections, [ROW, [["speed", 0, (2, 4)]], [("first", 0)]]),
    (least_mends, [ROW, [["speed", 0, (2, 4)]], [("first", 0)]]),
    (spoilers, [ROW, [["speed", 0, (2, 4)]], [("first", 0)]]),
    (mends_fault, [ROW, [["speed", 0, (2, 4)]], [("first", 0)], [Mend((0,), ROW)]]),
)


def wiped(thing):
    """Empties all lists in a thing."""
    if isinstance(thing, (list, tuple)):
        for part in thing:
            wiped(part)
    if isinstance(thing, list):
        thing.clear()


def contents(thing):
    """A value with its attributes, as a text."""
    if isinstance(thing, (list, tuple)):
        return repr([contents(part) for part in thing]) + thing.__class__.__name__
    return repr({name: contents(part) for name, part in vars(thing).items()}) if hasattr(thing, "__dict__") else repr(thing)


class ValuesTest(Case):
    def test_what_is_passed_stays(self):
        for call, given in CALLS:
            args = copy.deepcopy(given)
            call(*args)
            self.assertEqual(contents(args), contents(given), call)

    def test_nothing_that_is_passed_is_kept(self):
        """What is returned stays as it is when the lists that were passed are emptied."""
        for call, given in CALLS:
            args = copy.deepcopy(given)
            told = call(*args)
            before = contents(told)
            wiped(args)
            self.assertEqual(contents(told), before, call)

    def test_tuples_within_each_other(self):
        """No list is returned or stored, but by the two functions that list a generator here."""
        for call, given in CALLS:
            told = call(*copy.deepcopy(given))
            if call.__name__ != "<lambda>":
                self.assertNotIn("list", contents(told), call)

    def test_whole_numbers_and_ratios(self):
        for thing in (0, 1, -5, 10**500):
            self.assertTrue(is_whole(thing) and is_ratio(thing))
        for thing in (True, False, 1.0, None, (True, 1), (1, True), [1, 2]):
            self.assertFalse(is_whole(thing) or is_ratio(thing))
        self.is_same(Row([1, 1], [10**500, 0]).first_sum, (10**500, 1))


WALLED = Row([1, 1, 1], [1, 0, -1], True)
WIDE = Row([1] * 5, [4, 3, 2, 1, 0])
UNLIKE = Row([2, 1, 2], [1, 0, -1], True)
# Calls of which several things are wrong, and the first of them that is due.
DUE = (
    (Wide, {}, lambda: decide_claim(WIDE, None, most=0)),
    (BadClaim, {"what": "kind"}, lambda: decide_claim(ROW, None, most=0)),
    (TooMany, {"most": 0}, lambda: decide_claim(ROW, ("meets", 0), most=0)),
    (BadClaim, {"what": "kind"}, lambda: claim_follows(ROW, None, ("meets", 9), most=0)),
    (BadClaim, {"what": "pair"}, lambda: claim_follows(ROW, ("meets", 9), None, most=0)),
    (Wide, {}, lambda: wedges_with(WIDE, None)),
    (Wide, {}, lambda: ends_with(WIDE, None)),
    (Wide, {}, lambda: speed_extremes(WIDE, 99)),
    (NoBall, {"ball": 99}, lambda: speed_extremes(ROW, 99, most=0)),
    (Wide, {}, lambda: wedge_of(WIDE, None)),
    (BadGaps, {"what": "length"}, lambda: wedge_of(ROW, None, most=0)),
    (Wide, {}, lambda: history_of(WIDE, None)),
    (Wide, {}, lambda: word_gaps(WIDE, None)),
    (BadWord, {"index": 0, "what": "word"}, lambda: word_gaps(ROW, None)),
    (TwoGaps, {}, lambda: ratios_with(WIDE, None)),
    (TwoGaps, {}, lambda: turn_ratios(WIDE, 99)),
    (NotClosed, {"index": 0}, lambda: closed_moments(ROW, None)),
    (BadGaps, {"what": "gap"}, lambda: standing_at(ROW, [0, 1], -1)),
    (BadMoment, {"moment": -1}, lambda: standing_at(ROW, [1, 1], -1)),
    (BadGaps, {"what": "length"}, lambda: track_of(ROW, [1], 99)),
    (BadWord, {"index": 0, "what": "word"}, lambda: same_tables(ROW, None, [9])),
    (NoPair, {"pair": 9}, lambda: same_tables(ROW, [9], None)),
    (Unlike, {}, lambda: decide_like(UNLIKE, None)),
    (Unlike, {}, lambda: meeting_moment(UNLIKE, None, None)),
    (Unlike, {}, lambda: line_of(UNLIKE, None, None, None)),
    (NoBall, {"ball": None}, lambda: line_of(LIKE, [1, 1], None, None)),
    (NoWall, {}, lambda: stick_standing(WALLED, None, None)),
    (NoWall, {}, lambda: surely_last(Row([1] * 9, [0] * 9, True), None)),
    (Wide, {}, lambda: surely_last(WIDE, None)),
    (NoWall, {}, lambda: join_forms(WALLED, None)),
    (NoWall, {}, lambda: joined_with(WALLED, None)),
    (NoWall, {}, lambda: speed_bounds(WALLED, None)),
    (NoWall, {}, lambda: parting_fault(WALLED, Parting(None, None))),
    (NoWall, {}, lambda: decide_sticking(WALLED, None)),
    (BadClaim, {"what": "pair"}, lambda: decide_sticking(WIDE, ("ahead", 0, 9))),
    (BadGaps, {"what": "length"}, lambda: fact_holds(LIKE, None, None)),
    (BadFact, {"what": "fact"}, lambda: fact_holds(LIKE, [3, 1], None)),
    (Wide, {}, lambda: fitting_words(WIDE, None, most=0)),
    (BadFact, {"what": "facts"}, lambda: decide_heard(LIKE, None, None, most=0)),
    (BadClaim, {"what": "kind"}, lambda: decide_heard(LIKE, [("count", 9)], None, most=0)),
    (TooMany, {"most": 0}, lambda: decide_heard(LIKE, [("count", 9)], ("meets", 0), most=0)),
    (NothingFits, {}, lambda: decide_heard(LIKE, [("count", 9)], ("meets", 0))),
    (BadFact, {"what": "number"}, lambda: moment_ranges(LIKE, [("count", 9)], 2, 1, most=0)),
    (Wide, {}, lambda: good_selections(WIDE, None, None)),
    (NoWall, {}, lambda: good_selections(WALLED, None, None, sticking=True)),
    (BadChange, {"index": 0, "what": "pool"}, lambda: good_selections(ROW, None, None)),
    (BadWish, {"index": 0, "what": "sequence"}, lambda: good_selections(ROW, [("speed", 0, 0)], None, most=0)),
)


class DueTest(Case):
    def test_the_first_that_is_due(self):
        for kind, attributes, call in DUE:
            self.refused(kind, attributes, call)

    def test_judges_take_no_booleans_for_numbers(self):
        self.is_same(strict_fault(Strict(2, []), Inner((True, 1))), "gaps")
        self.is_same(run_fault(ROW, [1, 2], Run((False, 1, 0, 1), (), (), ())), "word")
        self.is_same(parting_fault(LIKE, Parting(((False, 2),), ((2, 3),))), "lots")
        self.is_same(orders_fault(LIKE, [StickOrder((False, True), (1, 1))]), "order")
        self.is_same(mends_fault(ROW, [("speed", 0, 0)], [], [Mend((False,), ROW)]), "order")


if __name__ == "__main__":
    unittest.main()
