import itertools
import time
import unittest
from fractions import Fraction

from checking import (LONG, NAMES, NO_NUMBERS_FROM_0, NO_SORTS, NO_TAPS, SORTS, as_number, assert_errors, assert_new,
                      assert_raises, drawn_net, error_of, fraction, keys_of, net_places, net_sort, other_taps)
from doing import (drawn_deed, drawn_deeds, drawn_table, left_taps, slow_done, slow_outside, table_by_sides, taps_after,
                   told_at, value_of_options)
from judging import ABCD, generator, least_over_sides
from telling import REACH
from test_nets import BAD_PARTS, NO_NETS

from behindtaps.deeds import (are_of_sort, deeds_verdict, done, first_unlike, is_alike_paper, is_deeds, options, outside,
                              taps_behind)
from behindtaps.errors import BadDeeds, BadNet, BadSort, BadTable, BadTaps, TooMany
from behindtaps.flows import alike_nets, wall
from behindtaps.kinds import kinds
from behindtaps.nets import beside, hidden_net, is_net, is_of_sort, melted_net, scaled

AB = ("a", "b")
ABC = ("a", "b", "c")
PIPE = ("pipe", "a", "b", 1)
LEAD = ("lead", "b", "a", 1)
HUB = ("hub", ABC, 1)
NET = (ABC, (("pipe", "a", "x", 3), ("pipe", "b", "x", 1), ("pipe", "c", "x", 2)))
DEEDS = [("lay", PIPE), ("add", "d"), ("hide", "c"), ("melt", "a", "b"), ("scale", (1, 2)),
         ("beside", (("a", "d"), (("pipe", "a", "d", 4),)))]
NO_DEEDS_OF_ABC = (None, True, 1, "lay", (), ("lay",), ["lay", PIPE], ("lay", PIPE, 1), ("Lay", PIPE), ("add",), ("add", "a"),
                   ("add", "D"), ("add", None), ("add", ["d"]), ("add", "d", "e"), ("melt", "a"), ("melt", "a", "a"),
                   ("melt", "a", "d"), ("melt", "d", "a"), ("melt", "a", None), ("melt", "a", "b", "c"), ("melt", ["a"], "b"),
                   ("hide", "d"), ("hide", None), ("hide", ("a",)), ("hide", "a", "b"), ("hide", {}), ("turn", NET), ("turn", "d"),
                   ("turn", 2), ("turn", PIPE), ("turn", "a", "b"), ("hide", NET), ("beside", (AB, ())),
                   ("beside", (ABCD, ())), ("beside", NET, NET), ("turn", "a"), ("lay", ("pipe", "a", "d", 1)),
                   ("lay", ("hub", ("a", "x"), 1)), ("lay", ("lead", "x", "a", 1)), {}, (None, None), (("lay",), PIPE)) + tuple(
                       ("scale", number) for number in NO_NUMBERS_FROM_0) + tuple(
                       ("lay", part) for part in BAD_PARTS) + tuple(("beside", net) for net in NO_NETS)
NO_DEEDS = (None, True, 1, "deeds", {}, PIPE, ("scale", 2), [("scale", 1)] * 21) + tuple(
    [deed] for deed in NO_DEEDS_OF_ABC) + tuple([("scale", 2), deed] for deed in NO_DEEDS_OF_ABC[:12])


def net_of(draw, taps, sort, most=6):
    """A net of the sort that has no lead or hub more than the sort lets it."""
    return drawn_net(draw, taps, sort, 2, most, draw.choice(("whole", "whole", "fraction")))


class JudgedTest(unittest.TestCase):
    def test_right_ones(self):
        self.assertIs(is_deeds(ABC, DEEDS), True)
        self.assertIs(is_deeds(ABC, tuple(DEEDS)), True)
        self.assertEqual(taps_behind(ABC, DEEDS), ("a", "d"))
        self.assertEqual((is_deeds(ABC, []), taps_behind(ABC, [])), (True, ABC))
        draw = generator(261)
        for at in range(150):
            taps = NAMES[:draw.randint(2, 6)]
            deeds = drawn_deeds(draw, taps, SORTS[at % 3], 20, kind="long")
            self.assertIs(is_deeds(taps, deeds), True, (taps, deeds))
            self.assertEqual(taps_behind(taps, deeds), left_taps(taps, deeds))
            self.assertIs(are_of_sort(taps, deeds, SORTS[at % 3]), True)
            for place in range(len(deeds) - 1):
                # Each deed must fit what the one before it leaves.
                mixed = deeds[:place] + [deeds[place + 1], deeds[place]] + deeds[place + 2:]
                self.assertIs(type(is_deeds(taps, mixed)), bool)

    def test_wrong_ones(self):
        for value in NO_DEEDS:
            self.assertIs(is_deeds(ABC, value), False, value)
        for taps in NO_TAPS:
            assert_raises(self, is_deeds, (taps, None), BadTaps)
        self.assertIs(is_deeds(value=[("scale", 0)], taps=AB), True)

    def test_how_many_taps_there_are(self):
        self.assertIs(is_deeds(NAMES[:5], [("add", "z")]), True)
        self.assertIs(is_deeds(NAMES, [("add", "z")]), False)
        self.assertIs(is_deeds(NAMES, [("hide", "a"), ("add", "z")]), True)
        self.assertIs(is_deeds(AB, [("hide", "a")]), False)
        self.assertIs(is_deeds(AB, [("melt", "a", "b")]), False)
        self.assertIs(is_deeds(AB, [("add", "c"), ("hide", "a"), ("add", "a"), ("melt", "c", "b")]), True)
        self.assertIs(is_deeds(AB, [("add", "c"), ("hide", "a"), ("lay", PIPE)]), False)
        # A tap that was hidden is none, nor is one that was melted.
        self.assertIs(is_deeds(ABC, [("melt", "a", "b"), ("lay", PIPE)]), False)
        self.assertIs(is_deeds(ABC, [("melt", "b", "a"), ("beside", (("b", "c"), ()))]), True)

    def test_twenty_deeds_and_21(self):
        self.assertIs(is_deeds(AB, [("scale", 2)] * 20), True)
        self.assertIs(is_deeds(AB, [("scale", 2)] * 21), False)

    def test_sorts(self):
        for deed, sorts in ((("lay", PIPE), SORTS), (("lay", LEAD), ("leads",)), (("lay", HUB), ("hubs",)), (("scale", 0), SORTS),
                            (("beside", (ABC, (PIPE,))), SORTS), (("beside", (ABC, (PIPE, LEAD))), ("leads",)),
                            (("beside", (ABC, (HUB, PIPE))), ("hubs",)), (("beside", (ABC, ())), SORTS),
                            (("add", "d"), SORTS), (("hide", "a"), SORTS), (("melt", "a", "b"), SORTS)):
            for sort in SORTS:
                self.assertIs(are_of_sort(ABC, [deed], sort), sort in sorts)
                self.assertIs(are_of_sort(sort=sort, deeds=[("scale", 1), deed], taps=ABC), sort in sorts)
        for sort in SORTS:
            self.assertIs(are_of_sort(ABC, [("lay", LEAD), ("lay", HUB)], sort), False)
        assert_errors(self, are_of_sort, (ABC, DEEDS, "pipes"), [
            (0, BadTaps, NO_TAPS), (1, BadDeeds, NO_DEEDS), (2, BadSort, NO_SORTS)])
        assert_errors(self, taps_behind, (ABC, DEEDS), [(0, BadTaps, NO_TAPS), (1, BadDeeds, NO_DEEDS)])


class DoneTest(unittest.TestCase):
    def test_each_deed(self):
        self.assertEqual(done(NET, []), NET)
        self.assertEqual(done(NET, [("lay", PIPE)]), (ABC, NET[1] + (PIPE,)))
        self.assertEqual(done(NET, [("add", "d")]), (ABCD, NET[1]))
        self.assertEqual(done(NET, [("melt", "a", "b")]), melted_net(NET, "a", "b"))
        self.assertEqual(done(NET, [("hide", "b")]), hidden_net(NET, "b"))
        self.assertEqual(done(NET, [("scale", (3, 2))]), scaled(NET, (3, 2)))
        self.assertEqual(done(NET, [("beside", NET)]), beside(NET, NET))
        self.assertEqual(done(deeds=DEEDS, net=NET), done(NET, tuple(DEEDS)))

    def test_an_inner_place_that_has_the_name_of_a_new_tap(self):
        self.assertEqual(done(NET, [("add", "x")]),
                         (("a", "b", "c", "x"), (("pipe", "a", "n0", 3), ("pipe", "b", "n0", 1), ("pipe", "c", "n0", 2))))
        # The first name that is no place of the net; ends and places are put in order.
        net = (("a", "n1"), (("pipe", "n0", "x", 1), ("pipe", "n1", "x", 2), ("pipe", "a", "n2", 1)))
        self.assertEqual(done(net, [("add", "x")]), (("a", "n1", "x"), (
            ("pipe", "n0", "n3", 1), ("pipe", "n1", "n3", 2), ("pipe", "a", "n2", 1))))
        self.assertEqual(done(net, [("add", "n0")]), (("a", "n0", "n1"), (
            ("pipe", "n3", "x", 1), ("pipe", "n1", "x", 2), ("pipe", "a", "n2", 1))))
        hub = (AB, (("hub", ("a", "x", "z"), 1),))
        self.assertEqual(done(hub, [("add", "x")]), (("a", "b", "x"), (("hub", ("a", "n0", "z"), 1),)))
        # A hidden tap is an inner place; when it is added again, it is another one.
        self.assertEqual(done(NET, [("hide", "c"), ("add", "c")]),
                         (ABC, NET[1][:2] + (("pipe", "n0", "x", 2),)))
        self.assertEqual(done((ABC, ()), [("hide", "c"), ("add", "c")]), (ABC, ()))

    def test_drawn_ones_against_outside(self):
        draw = generator(262)
        counted = 0
        for at in range(250):
            sort = SORTS[at % 3]
            taps = NAMES[:draw.randint(2, 5)]
            net = net_of(draw, taps, sort)
            deeds = drawn_deeds(draw, taps, sort, 5)
            told = done(net, deeds)
            self.assertTrue(is_net(told))
            self.assertIs(is_of_sort(told, sort), True)
            self.assertEqual(told[0], left_taps(taps, deeds))
            slow = slow_done(net, deeds)
            if len(net_places(told)) > 12 or len(net_places(slow)) > 12:
                continue
            counted += 1
            table = table_by_sides(told, sort)
            self.assertEqual(table_by_sides(slow, sort), table, (net, deeds))
            self.assertEqual(outside(taps, sort, table_by_sides(net, sort), deeds), (told[0], table), (net, deeds))
        self.assertGreater(counted, 150)

    def test_nets_alike_stay_alike(self):
        draw = generator(263)
        for at in range(40):
            taps = NAMES[:draw.randint(2, 4)]
            net = net_of(draw, taps, "pipes")
            other = (taps, tuple(("hub", part[1:3], part[3]) for part in net[1]))
            deeds = drawn_deeds(draw, taps, "pipes", 4)
            self.assertTrue(alike_nets(done(net, deeds), done(other, deeds)))

    def test_sorts_of_net_and_deeds(self):
        lead, hub, pipe = (ABC, (LEAD,)), (ABC, (HUB,)), (ABC, (PIPE,))
        for net, deeds in ((lead, [("lay", HUB)]), (hub, [("lay", LEAD)]), (pipe, [("lay", LEAD), ("lay", HUB)]),
                           (lead, [("beside", hub)]), (hub, [("beside", lead)]), (pipe, [("beside", hub), ("lay", LEAD)])):
            self.assertIs(is_deeds(ABC, deeds), True)
            assert_raises(self, done, (net, deeds), BadDeeds)
        for net in (lead, hub, pipe):
            self.assertEqual(done(net, [("lay", PIPE)])[1], net[1] + (PIPE,))
            self.assertEqual(net_sort(done(net, [("beside", net)])), net_sort(net))
        self.assertEqual(net_sort(done(pipe, [("lay", LEAD)])), "leads")

    def test_200_parts_and_40_places(self):
        most = (AB, (PIPE,) * 199)
        self.assertEqual(len(done(most, [("lay", PIPE)])[1]), 200)
        assert_raises(self, done, (most, [("lay", PIPE)] * 2), TooMany, most=200)
        assert_raises(self, done, (most, [("beside", (AB, (PIPE,) * 2))]), TooMany, most=200)
        chain = (AB, tuple(("pipe", "a", f"p{at}", 1) for at in range(37)))
        self.assertEqual(len(net_places(done(chain, [("add", "c")]))), 40)
        assert_raises(self, done, (chain, [("add", "c"), ("add", "d")]), TooMany, most=40)
        # Hiding a tap that no part has leaves a place less; so the deeds behind have room.
        self.assertEqual(len(net_places(done(chain, [("add", "c"), ("hide", "c"), ("add", "d")]))), 40)
        self.assertEqual(len(net_places(done(chain, [("add", "p7")]))), 40)
        assert_raises(self, done, (chain, [("beside", (AB, chain[1][:2]))]), TooMany, most=40)
        # The first deed that goes beyond tells which, also if later ones would go beyond the other.
        great = (AB, chain[1] * 5)
        assert_raises(self, done, (great, [("add", "c"), ("add", "d"), ("beside", (ABCD, (PIPE,) * 20))]), TooMany, most=40)
        assert_raises(self, done, (great, [("beside", (AB, (PIPE,) * 20)), ("add", "c"), ("add", "d")]), TooMany, most=200)
        assert_raises(self, done, (great, [("beside", (AB, chain[1]))]), TooMany, most=200)
        assert_raises(self, done, (great, [("beside", (AB, chain[1])), None]), BadDeeds)

    def test_facts_of_order(self):
        draw = generator(264)
        for at in range(60):
            sort = SORTS[at % 3]
            taps = NAMES[:draw.randint(3, 5)]
            net = net_of(draw, taps, sort)
            lay, more = (drawn_deed(draw, taps, sort, ("lay", "beside")) for _ in range(2))
            hide, scale = ("hide", taps[0]), ("scale", draw.choice((0, 2, (1, 3))))
            melt, add = ("melt", taps[1], taps[2]), ("add", "y1")
            away = drawn_deed(draw, taps[1:], sort, ("lay",))
            for one, other in (([lay, more], [more, lay]), ([hide, away], [away, hide]), ([scale, hide], [hide, scale]),
                               ([scale, melt], [melt, scale]), ([add, hide], [hide, add]),
                               ([add, ("hide", "y1")], [])):
                self.assertTrue(alike_nets(done(net, one), done(net, other)), (net, one, other))
            if len(taps) > 3:
                two = [hide, ("hide", taps[1])]
                self.assertTrue(alike_nets(done(net, two), done(net, two[::-1])))
            part = away[1]
            wider = part[:-1] + (as_number(fraction(part[-1]) * fraction(scale[1])),)
            self.assertTrue(alike_nets(done(net, [("lay", part), scale]), done(net, [scale, ("lay", wider)])))
            # A tap ahead of another one, which is hidden: the lesser one of the pipe and the wall before.
            pipe = ("pipe", *sorted((taps[0], "y1")), 3)
            told = done(net, [("add", "y1"), ("lay", pipe), ("hide", taps[0])])
            before = least_over_sides(net, (taps[0],), taps[1:])
            self.assertEqual(fraction(wall(told, ("y1",))), min(Fraction(3), before))

    def test_errors(self):
        assert_errors(self, done, (NET, DEEDS), [(0, BadNet, NO_NETS), (1, BadDeeds, NO_DEEDS)])


class OutsideTest(unittest.TestCase):
    def test_drawn_tables_against_options(self):
        draw = generator(265)
        for at in range(200):
            sort = SORTS[at % 3]
            taps = NAMES[:draw.randint(2, 6)]
            deeds = drawn_deeds(draw, taps, sort, 6, kind=draw.choice(("whole", "fraction", "long")))
            table = drawn_table(draw, taps, sort)
            mixed = list(table.items())
            draw.shuffle(mixed)
            left, behind = outside(taps, sort, dict(mixed), deeds)
            self.assertEqual((left, behind), slow_outside(taps, sort, table, deeds))
            self.assertEqual(list(behind), keys_of(left, sort))
            factor, lists = options(taps, sort, deeds)
            self.assert_options(taps, sort, deeds, factor, lists)
            for lot, choices in lists.items():
                self.assertEqual(as_number(value_of_options(factor, choices, taps, sort, table)), behind[lot])

    def assert_options(self, taps, sort, deeds, factor, lists):
        """Their form; each lot once, ascending."""
        self.assertEqual(list(lists), keys_of(left_taps(taps, deeds), sort))
        product = Fraction(1)
        for deed in deeds:
            product *= fraction(deed[1]) if deed[0] == "scale" else 1
        self.assertEqual(fraction(factor), product)
        for choices in lists.values():
            self.assertIs(type(choices), list)
            names = [lot for lot, _ in choices]
            self.assertEqual(names, sorted(set(names)))
            self.assertTrue(all(lot == () or lot in keys_of(taps, sort) for lot in names))
            if factor == 0:
                self.assertEqual(names, [()])

    def test_the_example(self):
        self.assertEqual(options(ABC, "pipes", [("hide", "c")]), (1, {("a",): [(("a",), 0), (("b",), 0)]}))
        self.assertEqual(options(ABC, "leads", [("hide", "c")]), (1, {
            ("a",): [(("a",), 0), (("a", "c"), 0)], ("b",): [(("b",), 0), (("b", "c"), 0)]}))

    def test_known_ones(self):
        self.assertEqual(options(AB, "pipes", []), (1, {("a",): [(("a",), 0)]}))
        self.assertEqual(options(AB, "leads", [("lay", LEAD), ("scale", 2)]), (2, {
            ("a",): [(("a",), 0)], ("b",): [(("b",), 2)]}))
        self.assertEqual(options(AB, "hubs", [("add", "c")]), (1, {
            ("a",): [(("a",), 0)], ("b",): [(("a",), 0)], ("c",): [((), 0)]}))
        # Through the hidden tap b runs the lesser one of the pipe and of the wall before.
        told = options(AB, "pipes", [("add", "c"), ("lay", ("pipe", "b", "c", (7, 2))), ("hide", "b")])
        self.assertEqual(told, (1, {("a",): [((), (7, 2)), (("a",), 0)]}))
        # Two options with one lot: only the lesser one stays.
        both = options(ABC, "pipes", [("melt", "a", "b"), ("add", "d"), ("lay", ("pipe", "a", "d", 1)), ("hide", "d")])
        self.assertEqual(both[1][("a",)], [(("c",), 0)])
        self.assertEqual(outside(AB, "pipes", {("a",): -5}, [("scale", (1, 2))]), (AB, {("a",): (-5, 2)}))

    def test_a_factor_of_0(self):
        deeds = [("lay", ("pipe", "a", "c", 5)), ("scale", 0), ("lay", ("pipe", "a", "b", 3)), ("hide", "c"), ("scale", (1, 2))]
        self.assertEqual(options(ABC, "pipes", deeds), (0, {("a",): [((), (3, 2))]}))
        self.assertEqual(outside(ABC, "pipes", {("a",): 7, ("b",): -1, ("c",): 2}, deeds), (AB, {("a",): (3, 2)}))
        # Of several sums the least one stays.
        deeds = [("scale", 0), ("lay", ("pipe", "a", "b", 3)), ("lay", ("pipe", "b", "c", 1)), ("hide", "b")]
        self.assertEqual(options(ABC, "hubs", deeds), (0, {("a",): [((), 1)]}))

    def test_first_unlike(self):
        draw = generator(266)
        for at in range(100):
            sort = SORTS[at % 3]
            taps = NAMES[:draw.randint(2, 5)]
            table = drawn_table(draw, taps, sort)
            other = dict(reversed(table.items()))
            self.assertIsNone(first_unlike(taps, sort, table, other))
            lots = draw.sample(keys_of(taps, sort), draw.randint(1, min(3, len(table))))
            for lot in lots:
                other[lot] = as_number(fraction(other[lot]) + Fraction(1, LONG))
            self.assertEqual(first_unlike(taps, sort, table, other), min(lots))
        self.assertIsNone(first_unlike(other={("a",): 1}, table={("a",): 1}, sort="hubs", taps=AB))

    def test_errors(self):
        table = {("a",): 1, ("b",): 2, ("c",): 3}
        no_tables = (None, True, 1, [], {}, {("a",): 1}, {**table, ("a", "b"): 1}, {**table, ("d",): 1}, {**table, ("a",): True},
                     {**table, ("a",): (2, 4)}, {**table, ("a",): None}, list(table.items()), {"a": 1, "b": 2, "c": 3})
        other_sorts = ([("lay", LEAD)], [("lay", HUB)], [("scale", 1), ("beside", (ABC, (LEAD,)))])
        head = [(0, BadTaps, NO_TAPS), (1, BadSort, NO_SORTS)]
        assert_errors(self, outside, (ABC, "pipes", table, DEEDS), head + [(2, BadTable, no_tables),
                                                                           (3, BadDeeds, NO_DEEDS + other_sorts)])
        assert_errors(self, first_unlike, (ABC, "pipes", table, table), head + [(2, BadTable, no_tables), (3, BadTable, no_tables)])
        assert_errors(self, options, (ABC, "pipes", DEEDS), head + [(2, BadDeeds, NO_DEEDS + other_sorts)])
        self.assertEqual(options(deeds=[], sort="pipes", taps=AB), (1, {("a",): [(("a",), 0)]}))
        self.assertEqual(outside(deeds=[], table=table, sort="pipes", taps=ABC), (ABC, table))
        lists = options(ABC, "pipes", [("hide", "c")])[1]
        lists[("a",)].append(1)
        self.assertEqual(options(ABC, "pipes", [("hide", "c")])[1], {("a",): [(("a",), 0), (("b",), 0)]})
        assert_new(self, lambda *told: outside(*told)[1], (ABC, "pipes", table, []))


def paper_faults(taps, sort, deeds, others, papers):
    """What is wrong with papers by [113], option by option and kind by kind."""
    own_factor, own = options(taps, sort, deeds)
    other_factor, other = options(taps, sort, others)
    if type(papers) is not dict or sorted(papers) != sorted(own):
        return ["lots"]
    tables = [table_by_sides(kind, sort) for kind in kinds(taps, sort)]
    for lot, sides in papers.items():
        if type(sides) is not tuple or len(sides) != 2:
            return ["pair"]
        for side, (factor, choices), (by_factor, by) in ((sides[0], (other_factor, other[lot]), (own_factor, own[lot])),
                                                         (sides[1], (own_factor, own[lot]), (other_factor, other[lot]))):
            if type(side) is not tuple or len(side) != len(choices):
                return ["options"]
            for (wanted, more), weights in zip(choices, side):
                if type(weights) is not tuple or len(weights) != len(by) or sum(map(fraction, weights)) != 1:
                    return ["weights"]
                if any(fraction(weight) < 0 for weight in weights):
                    return ["below 0"]
                if sum(fraction(weight) * fraction(less) for weight, (_, less) in zip(weights, by)) > fraction(more):
                    return ["more"]
                for table in tables:
                    mean = sum(fraction(weight) * told_at(taps, sort, table, one) for weight, (one, _) in zip(weights, by))
                    if fraction(by_factor) * mean > fraction(factor) * told_at(taps, sort, table, wanted):
                        return ["kind"]
    return []


class VerdictTest(unittest.TestCase):
    def assert_verdict(self, taps, sort, deeds, others, word=None):
        answer, shown = deeds_verdict(taps, sort, deeds, others)
        if word:
            self.assertEqual(answer, word, (taps, sort, deeds, others))
        if answer == "alike":
            self.assertEqual(paper_faults(taps, sort, deeds, others, shown), [])
            self.assertEqual(list(shown), keys_of(left_taps(taps, deeds), sort))
            self.assertIs(is_alike_paper(taps, sort, deeds, others, shown), True)
        else:
            self.assertEqual(answer, "unlike")
            self.assertTrue(is_net(shown) and shown[0] == taps and net_sort(shown) in (sort, "pipes"))
            table = {lot: wall(shown, lot) for lot in keys_of(taps, sort)}
            self.assertNotEqual(slow_outside(taps, sort, table, deeds), slow_outside(taps, sort, table, others))
            if len(net_places(shown)) <= 10:
                self.assertEqual(table, table_by_sides(shown, sort))
        return answer, shown

    def test_drawn_ones(self):
        draw = generator(267)
        words = []
        for at in range(200):
            sort = SORTS[at % 3]
            taps = NAMES[:draw.randint(2, REACH[sort])]
            deeds = drawn_deeds(draw, taps, sort, 4)
            others = drawn_deeds(draw, taps, sort, 4)
            if left_taps(taps, deeds) != left_taps(taps, others):
                others = [drawn_other(draw, deed) for deed in deeds]
            words.append(self.assert_verdict(taps, sort, deeds, others)[0])
            self.assert_verdict(taps, sort, deeds, list(deeds), "alike")
            for _ in range(3):
                net = net_of(draw, taps, sort)
                if words[-1] == "alike":
                    self.assertTrue(alike_nets(done(net, deeds), done(net, others)))
        self.assertGreater(words.count("alike"), 15)
        self.assertGreater(words.count("unlike"), 60)

    def test_deeds_whose_order_means_nothing(self):
        draw = generator(268)
        for at in range(60):
            sort = SORTS[at % 3]
            taps = NAMES[:draw.randint(3, REACH[sort])]
            lay, more = (drawn_deed(draw, taps, sort, ("lay", "beside")) for _ in range(2))
            away = drawn_deed(draw, taps[1:], sort, ("lay",))
            hide, scale, melt, add = ("hide", taps[0]), ("scale", draw.choice((0, 2, (1, 3)))), ("melt", taps[1], taps[2]), ("add", "q")
            behind = drawn_deeds(draw, left_taps(taps, [hide]), sort, 2)
            for one, other in (([lay, more], [more, lay]), ([hide, away] + behind, [away, hide] + behind),
                               ([scale, hide] + behind, [hide, scale] + behind), ([scale, melt], [melt, scale]),
                               ([scale, add], [add, scale]), ([add, ("hide", "q")], []), ([lay, add, ("hide", "q")], [lay])):
                self.assert_verdict(taps, sort, one, other, "alike")
            wider = away[1][:-1] + (as_number(fraction(away[1][-1]) * fraction(scale[1])),)
            self.assert_verdict(taps, sort, [away, scale], [scale, ("lay", wider)], "alike")

    def test_a_little_beside(self):
        for sort in SORTS:
            part = {"pipes": PIPE, "leads": LEAD, "hubs": ("hub", AB, 1)}[sort]
            self.assert_verdict(ABC, sort, [("lay", part)], [("lay", part[:-1] + ((LONG, LONG + 1),))], "unlike")
            self.assert_verdict(ABC, sort, [("scale", 1)], [("scale", (LONG, LONG + 1))], "unlike")
            self.assert_verdict(ABC, sort, [("scale", 0), ("lay", part)], [("lay", part)], "unlike")
            self.assert_verdict(ABC, sort, [("hide", "c"), ("lay", part)], [("lay", part), ("hide", "c")], "alike")
            # Through a tap that is hidden behind the pipe more runs than through one that was hidden before.
            self.assert_verdict(ABC, sort, [("hide", "c")], [("lay", PIPE), ("hide", "c")], "unlike")
        # A hub of two places is a pipe; a hub of three is none.
        self.assert_verdict(ABC, "hubs", [("lay", PIPE)], [("lay", ("hub", AB, 1))], "alike")
        three = [("lay", ("pipe", *pair, (1, 2))) for pair in itertools.combinations(ABC, 2)]
        self.assert_verdict(ABC, "hubs", three, [("lay", HUB)], "alike")
        self.assert_verdict(ABCD, "hubs", three, [("lay", HUB)], "alike")
        # An option that is covered by a mean of others alone: taps b and c are hidden behind wide or narrow pipes.
        self.assert_verdict(AB, "pipes", [("add", "c"), ("lay", ("pipe", "b", "c", 2)), ("hide", "b")],
                            [("add", "c"), ("lay", ("pipe", "b", "c", 3)), ("hide", "b")], "unlike")

    def test_papers_with_one_weight_changed(self):
        draw = generator(269)
        seen = []
        for at in range(60):
            sort = SORTS[at % 3]
            taps = NAMES[:draw.randint(2, REACH[sort])]
            deeds = drawn_deeds(draw, taps, sort, 4, ("lay", "hide", "beside", "melt", "add"))
            if not deeds or not options(taps, sort, deeds)[1]:
                continue
            papers = deeds_verdict(taps, sort, deeds, deeds)[1]
            lot = draw.choice(list(papers))
            side, at_option = draw.randrange(2), 0
            weights = papers[lot][side][at_option]
            place = draw.randrange(len(weights))
            for new in (weights[::-1], weights + (0,), weights[:-1], list(weights),
                        weights[:place] + (as_number(fraction(weights[place]) + Fraction(1, LONG)),) + weights[place + 1:],
                        weights[:place] + (True,) + weights[place + 1:], weights[place:] + weights[:place],
                        weights[:place] + (-1, 2) + weights[place + 2:], tuple(2 * weight - 1 if weight == 1 else 0 for weight in weights),
                        tuple(3 * fraction(weight).numerator - 2 * (at != place) for at, weight in enumerate(weights)),
                        tuple(as_number(Fraction(1, len(weights))) for _ in weights)):
                changed = list(papers[lot])
                changed[side] = (new,) + papers[lot][side][1:]
                value = {**papers, lot: tuple(changed)}
                try:
                    wanted = paper_faults(taps, sort, deeds, deeds, value) == []
                except AssertionError:
                    wanted = False
                self.assertIs(is_alike_paper(taps, sort, deeds, deeds, value), wanted, (taps, sort, deeds, value))
                seen.append(wanted)
            less = {key: told for key, told in papers.items() if key != lot}
            both = papers[lot]
            for value in (None, [], {}, list(papers.items()), {**papers, ("z",): ()}, {**papers, lot: None}, {**papers, lot: ()},
                          {**less, ("z",): both}, {**less, None: both}, {**papers, lot: (both[0][:-1], both[1])},
                          {**papers, lot: (both[0], both[1] + both[1][:1])}, {**papers, lot: (both[0], both[1][1:])},
                          {**papers, lot: both + both[:1]}, {**papers, lot: (list(both[0]), both[1])},
                          {**papers, lot: list(papers[lot])}, {**papers, lot: papers[lot][:1]}, {**papers, lot: (None, None)},
                          {key: told for key, told in papers.items() if key != lot}):
                self.assertIs(is_alike_paper(taps, sort, deeds, deeds, value), False)
            mixed = dict(reversed(papers.items()))
            self.assertIs(is_alike_paper(taps, sort, deeds, deeds, mixed), True)
        self.assertGreater(seen.count(False), 100)
        self.assertGreater(seen.count(True), 10)

    def test_errors(self):
        others_left = ([], [("hide", "a")], [("add", "e")])
        other_sorts = ([("lay", LEAD)], [("lay", HUB)])
        head = [(0, BadTaps, NO_TAPS), (1, BadSort, NO_SORTS), (2, BadDeeds, NO_DEEDS + other_sorts),
                (3, BadDeeds, NO_DEEDS + other_sorts + others_left)]
        assert_errors(self, deeds_verdict, (ABC, "pipes", DEEDS, DEEDS), head)
        assert_errors(self, is_alike_paper, (ABC, "pipes", DEEDS, DEEDS, None), head)
        # Deeds of another sort that leave the same taps.
        for sort, deed in (("pipes", ("lay", LEAD)), ("pipes", ("lay", HUB)), ("leads", ("lay", HUB)), ("hubs", ("lay", LEAD))):
            for function, rest in ((deeds_verdict, ()), (is_alike_paper, (None,))):
                assert_raises(self, function, (ABC, sort, [deed], [deed], *rest), BadDeeds)
                assert_raises(self, function, (ABC, sort, [deed], [], *rest), BadDeeds)
                assert_raises(self, function, (ABC, sort, [], [deed], *rest), BadDeeds)
        self.assertEqual(deeds_verdict(others=[], deeds=[], sort="pipes", taps=AB), ("alike", {("a",): (((1,),), ((1,),))}))
        self.assertIs(is_alike_paper(value={("a",): (((1,),), ((1,),))}, others=[], deeds=[], sort="pipes", taps=AB), True)
        for sort, reach in REACH.items():
            taps = NAMES[:reach]
            self.assertEqual(deeds_verdict(taps, sort, [], [])[0], "alike")
            more = NAMES[:reach + 1]
            for function, rest in ((deeds_verdict, ()), (is_alike_paper, (None,))):
                assert_raises(self, function, (more, sort, [], [], *rest), TooMany, most=reach)
                assert_raises(self, function, (more, sort, [], [("hide", "a")], *rest), BadDeeds)
            # Only the taps before the deeds count.
            if reach < 5:
                self.assertEqual(deeds_verdict(taps, sort, [("add", "y")], [("add", "y")])[0], "alike")

    def test_slowest_answers(self):
        draw = generator(270)
        started = time.process_time()
        for sort, reach in REACH.items():
            taps = NAMES[:reach]
            for kind in ("whole", "long"):
                deeds = []
                left = taps
                while len(deeds) < 20:
                    words = ("lay", "beside", "add") if len(left) < 6 and len(deeds) < 8 else ("lay", "beside", "hide", "scale")
                    deeds.append(drawn_deed(draw, left, sort, words, kind))
                    if deeds[-1] == ("scale", 0):
                        deeds.pop()
                    left = left_taps(taps, deeds)
                deeds_verdict(taps, sort, deeds, deeds[1:] if left_taps(taps, deeds[:1]) == taps else deeds)
                self.assertEqual(deeds_verdict(taps, sort, deeds, tuple(deeds))[0], "alike")
                outside(taps, sort, drawn_table(draw, taps, sort), deeds)
        self.assertLess(time.process_time() - started, 60)


def drawn_other(draw, deed):
    """The deed, or one that leaves the same taps."""
    if deed[0] == "scale" and draw.random() < 0.5:
        return ("scale", draw.choice((1, 2, deed[1])))
    if deed[0] == "lay" and draw.random() < 0.3:
        return ("lay", deed[1][:-1] + (2,))
    return deed


if __name__ == "__main__":
    unittest.main()
