import time
import unittest
from fractions import Fraction

from checking import (LONG, NAMES, NO_NUMBERS, NO_SORTS, NO_TAPS, SORTS, as_number, assert_errors, assert_new,
                      assert_raises, fraction, keys_of, net_places, net_sort)
from doing import drawn_deed, drawn_deeds, left_taps, slow_outside, table_by_sides, told_at
from judging import generator
from telling import REACH
from test_deeds import HUB, LEAD, NO_DEEDS, net_of

from behindtaps.deeds import done, options, outside
from behindtaps.errors import BadDeeds, BadNeeded, BadSort, BadTaps, TooMany
from behindtaps.flows import wall
from behindtaps.kinds import kinds
from behindtaps.needs import behind_needed, needs
from behindtaps.nets import is_net

AB = ("a", "b")
ABC = ("a", "b", "c")


def table_of(net, sort):
    return {lot: wall(net, lot) for lot in keys_of(net[0], sort)}


def paper_faults(taps, sort, deeds, lot, papers):
    """What is wrong with the papers of a needless lot by [114]."""
    factor, lists = options(taps, sort, deeds)
    wanted = [behind for behind, choices in lists.items() if any(own == lot for own, _ in choices)]
    if type(papers) is not dict or list(papers) != wanted:
        return ["lots"]
    tables = [table_by_sides(kind, sort) for kind in kinds(taps, sort)]
    for behind, weights in papers.items():
        choices = lists[behind]
        if type(weights) is not tuple or len(weights) != len(choices) or sum(map(fraction, weights)) != 1:
            return ["weights"]
        at = [own for own, _ in choices].index(lot)
        if weights[at] != 0 or any(fraction(weight) < 0 for weight in weights):
            return ["own"]
        if sum(fraction(weight) * fraction(more) for weight, (_, more) in zip(weights, choices)) > fraction(choices[at][1]):
            return ["more"]
        for table in tables:
            mean = sum(fraction(weight) * told_at(taps, sort, table, own) for weight, (own, _) in zip(weights, choices))
            if fraction(factor) * mean > fraction(factor) * told_at(taps, sort, table, lot):
                return ["kind"]
    return []


class NeedsTest(unittest.TestCase):
    def assert_needs(self, taps, sort, deeds, words=None):
        told = needs(taps, sort, deeds)
        self.assertEqual(list(told), keys_of(taps, sort))
        for lot, answer in told.items():
            if answer[0] == "needless":
                self.assertEqual(len(answer), 2)
                self.assertEqual(paper_faults(taps, sort, deeds, lot, answer[1]), [], (taps, sort, deeds, lot))
                continue
            word, net, other = answer
            self.assertEqual(word, "needed")
            for one in (net, other):
                self.assertTrue(is_net(one) and one[0] == taps and net_sort(one) in (sort, "pipes"))
            one, two = table_of(net, sort), table_of(other, sort)
            if max(len(net_places(net)), len(net_places(other))) <= 10:
                self.assertEqual((one, two), (table_by_sides(net, sort), table_by_sides(other, sort)))
            self.assertEqual([key for key in one if one[key] != two[key]], [lot])
            self.assertNotEqual(slow_outside(taps, sort, one, deeds), slow_outside(taps, sort, two, deeds))
        if words:
            self.assertEqual([answer[0] for answer in told.values()], words)
        return told

    def test_the_example(self):
        told = self.assert_needs(ABC, "pipes", (("hide", "c"),), ["needed", "needed", "needless"])
        self.assertEqual(told[("c",)], ("needless", {}))

    def test_drawn_ones(self):
        draw = generator(281)
        words = []
        for at in range(200):
            sort = SORTS[at % 3]
            taps = NAMES[:draw.randint(2, REACH[sort])]
            deeds = drawn_deeds(draw, taps, sort, 5, kind=draw.choice(("whole", "fraction")))
            told = self.assert_needs(taps, sort, deeds)
            words += [(answer[0], answer[0] == "needless" and answer[1] != {}) for answer in told.values()]
            self.assert_behind(draw, taps, sort, deeds, told)
        self.assertGreater(words.count(("needed", False)), 200)
        self.assertGreater(words.count(("needless", False)), 100)
        self.assertGreater(words.count(("needless", True)), 10)

    def assert_behind(self, draw, taps, sort, deeds, told):
        """Of any net the walls of the needed lots give the whole table behind the deeds."""
        for _ in range(3):
            net = net_of(draw, taps, sort)
            table = table_of(net, sort)
            needed = [lot for lot, answer in told.items() if answer[0] == "needed"]
            draw.shuffle(needed)
            behind = behind_needed(taps, sort, deeds, {lot: table[lot] for lot in needed})
            self.assertEqual(behind, outside(taps, sort, table, deeds)[1])
            self.assertEqual(behind, table_of(done(net, deeds), sort))
            self.assertEqual(list(behind), keys_of(left_taps(taps, deeds), sort))

    def test_no_deeds_need_all_walls(self):
        for sort, reach in REACH.items():
            for many in range(2, reach + 1):
                self.assert_needs(NAMES[:many], sort, [], ["needed"] * len(keys_of(NAMES[:many], sort)))
                told = self.assert_needs(NAMES[:many], sort, [("scale", 0)])
                self.assertEqual({answer[0] for answer in told.values()}, {"needless"})

    def test_known_ones(self):
        # A wide pipe between a and b: the hidden one of them has the wall of both alone.
        self.assert_needs(ABC, "pipes", [("melt", "a", "b")], ["needless", "needless", "needed"])
        # The walls of three taps are told by each other in part, and yet each one is needed.
        self.assert_needs(ABC, "hubs", [("scale", (1, LONG))], ["needed"] * 3)
        self.assert_needs(AB, "leads", [("add", "c"), ("lay", ("lead", "a", "c", 2)), ("hide", "a")],
                          ["needless", "needed"])

    def test_what_is_told_of_needed_lots_alone(self):
        deeds = [("hide", "c")]
        self.assertEqual(behind_needed(ABC, "pipes", deeds, {("b",): 3, ("a",): (5, 2)}), {("a",): (5, 2)})
        self.assertEqual(behind_needed(ABC, "pipes", deeds, {("b",): -3, ("a",): 2}), {("a",): -3})
        self.assertEqual(behind_needed(walls_told={}, deeds=[("scale", 0)], sort="pipes", taps=AB), {("a",): 0})
        told = {("a",): 2, ("b",): 1}
        assert_new(self, behind_needed, (ABC, "pipes", deeds, told))
        assert_new(self, needs, (ABC, "pipes", deeds))

    def test_errors(self):
        other_sorts = ([("lay", LEAD)], [("lay", HUB)])
        told = {("a",): 1, ("b",): 2}
        no_walls = (None, True, 1, [], (), {}, {("a",): 1}, {("b",): 1}, {**told, ("c",): 1}, {**told, (): 1}, {("a",): 1, ("c",): 1},
                    {("a",): 1, "b": 1}, list(told.items()), {1: 1, 2: 2}) + tuple({**told, ("a",): number} for number in NO_NUMBERS)
        head = [(0, BadTaps, NO_TAPS), (1, BadSort, NO_SORTS), (2, BadDeeds, NO_DEEDS + other_sorts)]
        assert_errors(self, needs, (ABC, "pipes", [("hide", "c")]), head)
        assert_errors(self, behind_needed, (ABC, "pipes", [("hide", "c")], told), head + [(3, BadNeeded, no_walls)])
        for sort, reach in REACH.items():
            taps = NAMES[:reach + 1]
            for function, rest in ((needs, ()), (behind_needed, ({},)), (behind_needed, (None,))):
                assert_raises(self, function, (taps, sort, [], *rest), TooMany, most=reach)
                assert_raises(self, function, (taps, sort, None, *rest), BadDeeds)
        self.assertEqual(needs(deeds=[("scale", 0)], sort="leads", taps=AB), {
            ("a",): ("needless", {}), ("b",): ("needless", {})})

    def test_slowest_answers(self):
        draw = generator(282)
        started = time.process_time()
        for sort, reach in REACH.items():
            taps = NAMES[:reach]
            for kind in ("whole", "long"):
                deeds, left = [], taps
                while len(deeds) < 20:
                    words = ("lay", "beside", "add") if len(deeds) < 14 and len(left) < 6 else ("lay", "beside", "hide")
                    deeds.append(drawn_deed(draw, left, sort, words, kind))
                    left = left_taps(taps, deeds)
                told = needs(taps, sort, deeds)
                needed = [lot for lot, answer in told.items() if answer[0] == "needed"]
                table = table_of(net_of(draw, taps, sort, 20), sort)
                self.assertEqual(behind_needed(taps, sort, deeds, {lot: table[lot] for lot in needed}),
                                 outside(taps, sort, table, deeds)[1])
        self.assertLess(time.process_time() - started, 60)

    def test_lots_that_are_needed_by_a_little(self):
        # b is hidden behind a pipe; whether its wall counts hangs on how wide the pipe is, for some net at least.
        for width, words in ((0, ["needless"]), ((1, LONG), ["needed"]), (5, ["needed"])):
            deeds = [("add", "c"), ("lay", ("pipe", "b", "c", width)), ("hide", "b")]
            told = self.assert_needs(AB, "pipes", deeds, words)
            if width:
                self.assertEqual(behind_needed(AB, "pipes", deeds, {("a",): (1, 3)}), {
                    ("a",): as_number(min(Fraction(1, 3), fraction(width)))})
            else:
                self.assertEqual(told, {("a",): ("needless", {("a",): (1, 0)})})


if __name__ == "__main__":
    unittest.main()
