"""What hangs together across all parts, and what holds of all functions."""

import copy
import importlib
import itertools
import re
import time
import unittest
from fractions import Fraction

from checking import NAMES, SORTS, all_lots, as_number, drawn_net, fraction, net_places, other_taps
from boxing import drawn_form, drawn_work, net_with_form, work_boxes
from judging import ABCD, C, claim_with, drawn_terms, generator, holding_claim
from telling import kept_fact
from test_interface import CLASSES, MODULES, told_functions

from behindtaps.claims import claim_worth
from behindtaps.daycubes import day_verdict
from behindtaps.desk import Desk
from behindtaps.errors import TapError, TooMany
from behindtaps.facts import follows
from behindtaps.flowclaims import flow_verdict
from behindtaps.flows import walls
from behindtaps.kinds import verdict_by_kinds
from behindtaps.live import House
from behindtaps.sorts import ClaimBook
from behindtaps.verdicts import verdict
from behindtaps.works import with_nets
from behindtaps.worksums import always

AB = ("a", "b")
ABC = ("a", "b", "c")
BOX = (ABCD, (("box", "k", ABCD),))
ONE = (("p", "q"), (("pipe", "p", "q", 1),))


def word_of(function, *arguments):
    """The first word of the answer, None for TooMany."""
    try:
        return function(*arguments)[0]
    except TooMany:
        return None


def box_terms(terms):
    return tuple(((BOX, lot), weight) for lot, weight in terms)


class OneThingTest(unittest.TestCase):
    def words(self, claim):
        """The first words of all that says whether the claim holds for pipes."""
        flow_terms = tuple(sorted(((lot, other_taps(ABCD, lot)), weight) for lot, weight in claim[1]))
        told = {"verdict": word_of(verdict, claim, "pipes"), "kinds": word_of(verdict_by_kinds, claim, "pipes"),
                "facts": {"follows": "holds"}.get(*[word_of(follows, ABCD, [], "pipes", (claim[1], 0))] * 2),
                "flows": word_of(flow_verdict, (ABCD, flow_terms), "pipes")}
        if len(claim[1]) <= 6:
            told["works"] = word_of(always, box_terms(claim[1]))
        for day in (0, 4):
            terms = tuple(((day, lot), weight) for lot, weight in claim[1])
            for trend in ("same", "closed", "opened", "any"):
                told[trend, day] = word_of(day_verdict, (ABCD, terms), "pipes", trend)
        return told

    def test_claims_with_four_taps(self):
        draw = generator(321)
        seen = {"holds": 0, "breaks": 0}
        for at in range(150):
            claim = drawn_terms(draw, ABCD, "pipes", draw.randint(0, 4), draw.randint(0, 3), draw.choice(("whole", "fraction")))
            if at % 2:
                claim = holding_claim(draw, ABCD, "pipes")
                if at % 4 == 1 and claim[1]:
                    # A little less of one term: most often it breaks then.
                    weights = {lot: fraction(weight) for lot, weight in claim[1]}
                    weights[draw.choice(list(weights))] -= Fraction(1, 10 ** 6)
                    claim = claim_with(ABCD, weights)
            told = self.words(claim)
            said = set(told.values()) - {None}
            self.assertEqual(len(said), 1, (claim, told))
            self.assertIsNotNone(told["kinds"])
            seen[told["kinds"]] += 1
            self.assertGreaterEqual(sum(word is not None for word in told.values()), 3)
        self.assertGreater(min(seen.values()), 40)

    def test_the_four_lots(self):
        self.assertEqual(set(self.words(C).values()) - {None}, {"holds"})
        less = (ABCD, tuple((lot, weight if weight > 0 else as_number(Fraction(-10 ** 6 - 1, 10 ** 6))) for lot, weight in C[1]))
        self.assertEqual(set(self.words(less).values()) - {None}, {"breaks"})

    def test_with_facts(self):
        draw = generator(322)
        seen = {"follows": 0, "breaks": 0, "clash": 0}
        pairs = {"follows": "holds", "breaks": "breaks", "clash": "clash"}
        for at in range(120):
            net = drawn_net(draw, ABCD, "pipes", 2, 7, "whole")
            facts = [kept_fact(draw, net, 2) for _ in range(draw.randint(0, 5))]
            if at % 3 == 0:
                terms = claim_with(ABCD, {draw.choice(all_lots(ABCD)): Fraction(draw.choice((1, -1)))})[1]
                facts.append((terms, as_number(fraction(claim_worth((ABCD, terms), net)) + 1)))
            terms, bound = kept_fact(draw, net, 3)
            bound = as_number(fraction(bound) + draw.choice((0, 0, 1)))
            told = [(tuple((("k", lot), weight) for lot, weight in own), least) for own, least in facts]
            more = () if bound == 0 else (((ONE, ("p",)), as_number(-fraction(bound))),)
            word = follows(ABCD, facts, "pipes", (terms, bound))[0]
            self.assertEqual(always(box_terms(terms) + more, told)[0], pairs[word], (facts, terms, bound))
            seen[word] += 1
        self.assertGreater(min(seen.values()), 8, seen)

    def test_walls_of_nets_in_boxes_are_taken_by_a_house(self):
        draw = generator(323)
        for at in range(30):
            work = drawn_work(draw, NAMES[:draw.randint(2, 5)], 2, 2, 4)
            nets = {name: net_with_form(drawn_form(draw)) for name in work_boxes(work)}
            net = with_nets(work, nets)
            told = list(walls(net).items())
            draw.shuffle(told)
            house = House(work[0], "pipes")
            for lot, width in told:
                house.measure(lot, width)
            self.assertEqual(house.settled(), walls(net))
            self.assertLessEqual(len(net_places(net)), 40)


PIPES = (ABC, (("pipe", "a", "x", 2), ("pipe", "b", "x", 1), ("pipe", "a", "c", 1)))
SEATED = (ABCD, PIPES[1])
CLAIM = (ABC, ((("a",), 1), (("a", "b"), -1), (("b",), 1)))
FLOW_CLAIM = (ABC, (((("a",), ("b",)), 1), ((("a",), ("b", "c")), -1)))
DAY_CLAIM = (ABC, (((0, ("a",)), 1), ((1, ("a",)), -1)))
TABLE = {("a",): 3, ("b",): 1, ("c",): 2}
WORK = (ABC, (("box", "k", ("a", "b", "x", "x")), ("pipe", "c", "x", 2)))
SEATED_WORK = (ABCD, (("box", "k", ABCD), ("pipe", "a", "b", 1)))
FORM = {**{pair: 1 for pair in itertools.combinations(ABCD, 2)}, "cross": 2}
DEEDS = [("lay", ("pipe", "a", "b", 1)), ("hide", "c")]
FACTS = [(((("a",), 1),), 1)]
RULE = {("a",): 1, ("b",): 1, ("c",): 1}
ROWS = [((1, 0), 1), ((0, 1), 2)]
SENDING = ((AB, ((0, "x"), (1, "b")), 1),)
TERMS = ((("a",), 1), (("b",), -1))
PAPER = verdict(CLAIM, "pipes")[1]
STEPS = (((("a",), ("b",)), 1),)
HOUSE = House(ABC, "pipes")
WORK_TERMS = (((WORK, ("a",)), 1), ((WORK, ("b",)), -1))
TOLD = [(((("k", ("a",)), 1),), 1)]
SAMPLES = {
    "numbers": {"is_number": (1,), "number": (6, 4)},
    "lots": {"lots": (ABC,), "plain_lots": (ABC, "leads"), "opposite": (ABC, ("a",)), "plain_lot": (ABC, AB)},
    "inequalities": {"solved": (ROWS,), "least": (ROWS, (1, 1)), "is_solved": (ROWS, None), "is_least": (ROWS, (1, 1), None),
                     "tight": (ROWS, (1, 3))},
    "nets": {"is_net": (PIPES,), "sort_of": (PIPES,), "is_of_sort": (PIPES, "hubs"), "places_of": (PIPES,), "inner_of": (PIPES,),
             "beside": (PIPES, PIPES), "scaled": (PIPES, (1, 2)), "renamed_net": (PIPES, {"x": "y"}), "without_empty": (PIPES,),
             "turned_net": (PIPES,), "melted_net": (PIPES, "a", "b"), "hidden_net": (PIPES, "a"), "as_leads": (PIPES,),
             "as_hubs": (PIPES,), "as_pipes": (PIPES,)},
    "flows": {"side_cost": (PIPES, AB), "is_side": (PIPES, ("a",), ("b",), ("a",)), "least_side": (PIPES, ("a",), ("b",)),
              "is_flow": (PIPES, ("a",), ("b",), (0, 0, 0)), "amount_of": (PIPES, ("a",), ("b",), (0, 0, 0)),
              "greatest_flow": (PIPES, ("a",), ("b",)), "flow_between": (PIPES, ("a",), ("b",)), "wall": (PIPES, ("a",)),
              "walls": (PIPES,), "alike_nets": (PIPES, PIPES)},
    "nettexts": {"net_text": (PIPES,), "read_net": ("taps a b\npipe a b 1\n",)},
    "claims": {"is_claim": (CLAIM,), "claim_of": (ABC, [(("a",), 1)]), "greater": (CLAIM,), "lesser": (CLAIM,),
               "plain_form": (CLAIM, "hubs"), "whole_form": (CLAIM, "hubs"), "alike_claims": (CLAIM, CLAIM, "pipes"),
               "claim_worth": (CLAIM, PIPES), "holds": (CLAIM, PIPES), "table_worth": (CLAIM, "pipes", TABLE),
               "added": (CLAIM, CLAIM), "multiplied": (CLAIM, (1, 2)), "renamed_claim": (CLAIM, {"a": "b", "b": "a", "c": "c"}),
               "sum_or_table": ([CLAIM], CLAIM, "pipes"), "is_sum_or_table": ([CLAIM], CLAIM, "pipes", ("sum", (1,))),
               "opened_claim": (CLAIM, "a", "z"), "melted_claim": ((ABC, ((AB, 1),)), "a", "b")},
    "stars": {"even_sets": (ABC,), "star_net": (ABC, {AB: 1}), "star_shares": (PIPES,), "star_worths": (CLAIM,),
              "claim_by_stars": (ABC, {AB: 1, ("a", "c"): 0, ("b", "c"): 2}), "parting_stars": (CLAIM, CLAIM)},
    "claimtexts": {"claim_text": (CLAIM,), "read_claim": ("a b: 0 >= 0",), "claims_text": ([CLAIM],),
                   "read_claims": ("a b: 0 >= 0\n",)},
    "cubes": {"corners": (CLAIM, "pipes"), "tap_corners": (CLAIM, "pipes"), "spans": (CLAIM, "pipes"),
              "is_paper": (CLAIM, "pipes", PAPER), "cube_places": (CLAIM, "pipes"),
              "cube_net": (CLAIM, "pipes", {((0, 0), (0, 1)): 2})},
    "verdicts": {"verdict": (CLAIM, "pipes"), "greatest_share": (CLAIM, "pipes", ("a",))},
    "flowclaims": {"is_flow_claim": (FLOW_CLAIM,), "flow_worth": (FLOW_CLAIM, PIPES), "standings": (FLOW_CLAIM,),
                   "is_flow_paper": (FLOW_CLAIM, "pipes", (("a",),), None), "flow_verdict": (FLOW_CLAIM, "pipes")},
    "widest": {"is_rule": (ABC, "even", RULE), "rule_worth": (CLAIM, "even", RULE), "steps_claim": (ABC, "even", STEPS),
               "is_derivation": (CLAIM, "even", None, [CLAIM]), "widest": (CLAIM, "even", [CLAIM]), "four_lots": (ABCD,)},
    "sorts": {"realms_of": (CLAIM,), "parting": (C, "pipes", "hubs"), "led_paper": (CLAIM, verdict(CLAIM, "leads")[1]),
              "one_way_net": (PIPES,)},
    "kinds": {"kinds": (ABC, "pipes"), "is_table": (ABC, "pipes", TABLE), "checks": (ABC, "pipes"),
              "first_failed": (ABC, "pipes", TABLE), "reached": (ABC, "pipes", TABLE), "verdict_by_kinds": (CLAIM, "pipes")},
    "forms": {"is_form": (FORM,), "form_of_net": (PIPES,), "form_of_table": (ABC, "pipes", TABLE), "table_of_form": (FORM,),
              "net_of_form": (FORM,), "sum_of_forms": (FORM, FORM), "form_times": (FORM, 2), "melted_form": (FORM, "a", "b"),
              "hidden_form": (FORM, "a"), "straight": (PIPES,)},
    "facts": {"is_fact": (ABC, FACTS[0]), "measured": (ABC, TABLE), "keeps": (PIPES, FACTS), "rest": (ABC, FACTS, (1,), FACTS[0]),
              "is_reason": (ABC, FACTS, "pipes", FACTS[0], (1,)), "follows": (ABC, FACTS, "pipes", FACTS[0])},
    "ranges": {"least_sum": (ABC, FACTS, "pipes", TERMS), "range_of": (ABC, FACTS, "pipes", ("a",)),
               "ranges": (ABC, FACTS, "pipes"), "settled": (ABC, FACTS, "pipes"), "enough": (ABC, FACTS, "pipes", FACTS[0])},
    "sendings": {"parted": (PIPES, {AB: 1}, ("a",)), "is_sending": (PIPES, SENDING), "carried": (PIPES, SENDING),
                 "loads": (PIPES, SENDING), "distance": (PIPES, (1, 1, 1), AB), "is_bar": (PIPES, {AB: 1}, (1, 1, 1)),
                 "shrunk": (PIPES, SENDING, (1, 2)), "mixed": (PIPES, SENDING, SENDING, (1, 2)),
                 "sent_beside": (PIPES, SENDING, PIPES, SENDING)},
    "shares": {"share": (PIPES, {AB: 1}), "sent": (PIPES, {AB: 1}), "at_once": (PIPES, {AB: 1})},
    "works": {"is_work": (WORK,), "boxes_of": (WORK,), "inner_joints": (WORK,), "with_nets": (WORK, {"k": SEATED}),
              "work_form": (SEATED_WORK, {"k": FORM}), "side_sums": (WORK, ("a",)), "work_worth": (WORK, ("a",), {"k": FORM}),
              "nested": (WORK, "k", SEATED_WORK)},
    "worksums": {"least_sums": (WORK, ("a",)), "sum_verdict": (WORK, ("a",), ((1, 0, 0, 1, 1, 0, 1),)), "always": (WORK_TERMS, TOLD),
                 "is_always_paper": (WORK_TERMS, TOLD, None), "told_apart": (WORK, WORK), "needless_boxes": (WORK,),
                 "needless_pipes": (WORK,), "thinned": (WORK,)},
    "days": {"is_story": ((PIPES, PIPES), "same"), "is_day_claim": (DAY_CLAIM,), "plain_days": (DAY_CLAIM, "pipes"),
             "day_worth": (DAY_CLAIM, (PIPES, PIPES)), "turned_days": (DAY_CLAIM,), "pressed_days": (DAY_CLAIM,),
             "without_days": (DAY_CLAIM,), "day_parts": (DAY_CLAIM,)},
    "daycubes": {"is_day_paper": (DAY_CLAIM, "pipes", "same", ((0, 1),)), "day_verdict": (DAY_CLAIM, "pipes", "closed"),
                 "cube_story": (DAY_CLAIM, "pipes", "any", {((0,), (1,)): 1}), "trends_of": (DAY_CLAIM, "pipes")},
    "deeds": {"is_deeds": (ABC, DEEDS), "are_of_sort": (ABC, DEEDS, "pipes"), "taps_behind": (ABC, DEEDS), "done": (PIPES, DEEDS),
              "outside": (ABC, "pipes", TABLE, DEEDS), "first_unlike": (ABC, "pipes", TABLE, TABLE),
              "options": (ABC, "pipes", DEEDS), "deeds_verdict": (ABC, "pipes", DEEDS, DEEDS),
              "is_alike_paper": (ABC, "pipes", DEEDS, DEEDS, {("a",): ()})},
    "needs": {"needs": (ABC, "pipes", DEEDS), "behind_needed": (ABC, "pipes", DEEDS, {("a",): 1, ("b",): 2})},
    "journals": {"journal_text": (HOUSE,), "entries_text": (HOUSE,), "played": ("house pipes a b\nmeasure a = 1\n",)},
}
UNJUDGED = ("journal_text", "entries_text")


def nested(levels, wrap):
    value = 1
    for _ in range(levels):
        value = wrap(value)
    return value


def any_values():
    """Values of all kinds, also right ones for other parameters."""
    found = [None, True, False, 0, 1, -1, 10 ** 30 - 1, "", "a", "pipes", "taps a b\n", "x" * 300, [], (), {}, (1, 2), (2, 4), [1],
             (None,), ("a",), ["a"], AB, ABC, {"a": 1}, {1: 2}, {(): ()}, {None: None}, {True: True}, {("a",): True}, {AB: []},
             nested(40, lambda value: (value,)), nested(40, lambda value: [value]), nested(40, lambda value: {1: value}),
             (AB, ()), (AB, None), (AB, (None,)), (AB, (("pipe",),)), (AB, ((),)), ((), ()), ([], []), ("pipe", "a", "b", 1),
             [(("a",), 1)], [None], [[]], [()], [{}], ((None, None),), (((), ()),), ((("a",), None),), (({}, {}),), ([[], []],),
             [({}, {})], [([], [])], {"k": {}}, {"k": []}, {"k": None}, {AB: {}}, House(AB, "pipes"), ClaimBook(AB), Desk(),
             (House(AB, "pipes"),), [Desk()], {"a": Desk()}, (AB, House(AB, "pipes")), (House(AB, "pipes"), ()), ("lay", Desk()),
             [("lay", [])], [("hide", [])], [("melt", [], {})], [("add", {})], [("scale", {})], [("beside", [])], [([], [])]]
    for module in SAMPLES.values():
        for arguments in module.values():
            found.extend(arguments)
    unlike = []
    for value in found:
        if repr(value) not in [repr(other) for other in unlike]:
            unlike.append(value)
    return unlike


def words_of(value):
    """What can be read of a value, True and 1 told apart; objects of the package by their kind."""
    return re.sub(" at 0x[0-9a-f]+", "", repr(value))


def function_of(module, name):
    return getattr(importlib.import_module(f"behindtaps.{module}"), name)


class AllFunctionsTest(unittest.TestCase):
    def test_each_function_has_a_sample(self):
        for module, text in MODULES.items():
            self.assertEqual(sorted(told_functions(text)), sorted(SAMPLES.get(module, {})), module)

    def test_equal_arguments_give_equal_results_and_stay(self):
        for module, functions in SAMPLES.items():
            for name, arguments in functions.items():
                function = function_of(module, name)
                before = words_of(arguments)
                first, kept = function(*arguments), copy.deepcopy(arguments)
                second = function(*kept)
                self.assertEqual((first, words_of(first)), (second, words_of(second)), name)
                self.assertEqual((words_of(arguments), words_of(kept)), (before, before), name)
                # Parameters by name, in any order.
                parameters = told_functions(MODULES[module])[name].strip("()").split(", ")
                named = {parameter.partition("=")[0]: value for parameter, value in zip(parameters, arguments)}
                self.assertEqual(words_of(function(**dict(reversed(named.items())))), words_of(second), name)

    def test_what_is_returned_is_new_at_every_depth(self):
        for module, functions in SAMPLES.items():
            for name, arguments in functions.items():
                told = function_of(module, name)(*arguments)
                before = words_of(function_of(module, name)(*arguments))
                spoil(told)
                self.assertEqual(words_of(function_of(module, name)(*arguments)), before, name)

    def test_any_value_in_any_place(self):
        values = any_values()
        started = time.process_time()
        calls = 0
        for module, functions in SAMPLES.items():
            for name, arguments in functions.items():
                function = function_of(module, name)
                parameters = told_functions(MODULES[module])[name].strip("()").split(", ")
                for place in range(len(arguments)):
                    for value in values if name not in UNJUDGED else ():
                        changed = arguments[:place] + (value,) + arguments[place + 1:]
                        self.assert_told(function, name, parameters[place], changed, value)
                        calls += 1
        self.assertGreater(calls, 20000)
        self.assertLess(time.process_time() - started, 300)

    def assert_told(self, function, name, parameter, changed, value):
        """Either an answer, or an error of the package, and nothing is changed."""
        before = repr(changed)
        try:
            told = function(*changed)
            if parameter == "value":
                self.assertIs(type(told), bool, (name, value))
        except TapError as error:
            self.assertEqual(type(error).__bases__, (TapError,))
            self.assertNotEqual(parameter.partition("=")[0], "value", (name, value, error))
        self.assertEqual(repr(changed), before, name)

    def test_objects_are_equal_to_nothing_of_another_kind(self):
        objects = [House(AB, "pipes"), ClaimBook(AB), Desk()]
        for one in objects:
            for other in [value for value in any_values() if type(value) is not type(one)]:
                self.assertFalse(one == other)
                self.assertTrue(one != other)
            with self.assertRaises(TypeError):
                iter(one)
        self.assertEqual(sorted(name for classes in CLASSES.values() for name in classes),
                         sorted(type(one).__name__ for one in objects))

    def test_methods_take_any_value(self):
        house = House(ABC, "pipes")
        house.measure(("a",), 2)
        for name, places in (("tell", 2), ("measure", 2), ("range_of", 1), ("follows", 2), ("conflicts", 2), ("ways_out", 2)):
            right = {"measure": (("a",), 2), "range_of": (("a",),)}.get(name, (TERMS, 0))
            for place, value in itertools.product(range(places), any_values()):
                try:
                    getattr(house.copy(), name)(*right[:place], value, *right[place + 1:])
                except TapError as error:
                    self.assertEqual(type(error).__bases__, (TapError,))
        desk = Desk()
        for value in any_values():
            self.assertIs(type(desk.say(value)), str)
        self.assertEqual(SORTS, ("pipes", "leads", "hubs"))


def spoil(value):
    """Changes all lists and dicts in a value."""
    if isinstance(value, tuple):
        for item in value:
            spoil(item)
    elif isinstance(value, list):
        for item in value:
            spoil(item)
        value.append("spoilt")
    elif isinstance(value, dict):
        for item in value.values():
            spoil(item)
        value["spoilt"] = "spoilt"


if __name__ == "__main__":
    unittest.main()
