import itertools
import random
import unittest
from fractions import Fraction

from checking import (LONG, NAMES, SORTS, all_lots, all_sides, as_number, assert_errors, assert_new, assert_raises,
                      cost_of, drawn_net, drawn_nets, error_of, flow_amount, flow_faults, fraction, keys_of, least_cost,
                      net_places, net_sort, other_taps, part_places, slow_walls)
from test_nets import ABC, EMPTY, HUBS, LEADS, NO_NETS, PIPES

from behindtaps.errors import BadFlow, BadLot, BadNet, BadPlaces
from behindtaps.flows import (alike_nets, amount_of, flow_between, greatest_flow, is_flow, is_side, least_side, side_cost,
                              wall, walls)
from behindtaps.nets import as_hubs, as_leads, as_pipes, beside, hidden_net, melted_net, scaled, turned_net

NO_SIDES = (None, True, 1, "a", ["a"], ("b", "a"), ("a", "a"), ("a", "q"), ("d",), ("A",), (1,), (None,), (["a"],), {},
            {"a": 1}, (("a",),))
NO_BLOCKS = ((),) + NO_SIDES
WRONG_BLOCKS = [(0, BadNet, NO_NETS), (1, BadPlaces, NO_BLOCKS), (2, BadPlaces, NO_BLOCKS)]
A, B, X = ("a",), ("b",), ("x",)
AB = ("a", "b")


def drawn_blocks(draw, net):
    """Two blocks of the net that are apart."""
    places = net_places(net)
    many = draw.randint(2, min(4, len(places)))
    found = draw.sample(places, many)
    cut = draw.randint(1, many - 1)
    return tuple(sorted(found[:cut])), tuple(sorted(found[cut:]))


def drawn_tasks(seed, many, **told):
    draw = random.Random(seed)
    for net in drawn_nets(seed, many, **told):
        source, target = drawn_blocks(draw, net)
        yield draw, net, source, target


class SidesTest(unittest.TestCase):
    def test_costs(self):
        self.assertEqual(side_cost(PIPES, A), 3)
        self.assertEqual(side_cost(PIPES, X), (11, 2))
        self.assertEqual(side_cost(PIPES, ("b", "c", "x")), 4)
        self.assertEqual(side_cost(PIPES, ()), 0)
        self.assertEqual(side_cost(PIPES, ("a", "b", "c", "x", "y")), 0)
        self.assertEqual(side_cost(LEADS, A), (1, 2))
        self.assertEqual(side_cost(LEADS, X), 3)
        self.assertEqual(side_cost(LEADS, ("a", "x")), (3, 2))
        self.assertEqual(side_cost(HUBS, A), (7, 3))
        self.assertEqual(side_cost(HUBS, ("a", "b")), (7, 3))
        self.assertEqual(side_cost(HUBS, ("a", "b", "x")), (4, 3))
        self.assertEqual(side_cost(HUBS, ("a", "b", "c", "x")), 0)

    def test_costs_of_all_sides(self):
        for net in drawn_nets(1, 60):
            places = net_places(net)
            for many in range(len(places) + 1):
                for side in itertools.combinations(places, many):
                    self.assertEqual(side_cost(net, side), as_number(cost_of(net, side)))

    def test_is_side(self):
        for value in (A, ("a", "x"), ("a", "x", "y"), ("a", "b"), ("a", "b", "x", "y")):
            self.assertIs(is_side(PIPES, A, ("c",), value), True, value)
        for value in ((), X, ("a", "c"), ("b", "x"), ("a", "b", "c", "x", "y"), ("c",)) + NO_SIDES:
            self.assertIs(is_side(PIPES, A, ("c",), value), False, value)
        self.assertIs(is_side(PIPES, ("a", "x"), ("b", "y"), A), False)
        self.assertIs(is_side(PIPES, ("a", "x"), ("b", "y"), ("a", "x", "y")), False)
        self.assertIs(is_side(PIPES, ("a", "x"), ("b", "y"), ("a", "c", "x")), True)
        self.assertIs(is_side(PIPES, X, ("y",), ("x",)), True)

    def test_side_errors(self):
        assert_errors(self, side_cost, (PIPES, ("a", "x")), [(0, BadNet, NO_NETS), (1, BadPlaces, NO_SIDES)])

    def test_block_errors(self):
        for function in (least_side, greatest_flow, flow_between):
            assert_errors(self, function, (PIPES, ("a", "x"), B), WRONG_BLOCKS)
        for function in (is_side, is_flow):
            assert_errors(self, function, (PIPES, ("a", "x"), B, None), WRONG_BLOCKS)
        flow = greatest_flow(PIPES, ("a", "x"), B)[1]
        assert_errors(self, amount_of, (PIPES, ("a", "x"), B, flow), WRONG_BLOCKS + [(3, BadFlow, (None, (), [0]))])

    def test_blocks_must_be_apart(self):
        for function, more in ((least_side, ()), (greatest_flow, ()), (flow_between, ()), (is_side, (None,)),
                               (is_flow, (None,)), (amount_of, (None,))):
            for target in (A, X, ("a", "b"), ("b", "x"), ("a", "x")):
                assert_raises(self, function, (PIPES, ("a", "x"), target, *more), BadPlaces)


class LeastSidesTest(unittest.TestCase):
    def test_least_of_all_and_within_all_others(self):
        for _, net, source, target in drawn_tasks(2, 240):
            cost, side = least_side(net, source, target)
            costs = [(cost_of(net, other), other) for other in all_sides(net, source, target)]
            self.assertEqual(fraction(cost), min(costs, key=lambda pair: pair[0])[0], (net, source, target))
            self.assertEqual(side_cost(net, side), cost)
            self.assertIs(is_side(net, source, target, side), True)
            for other_cost, other in costs:
                if other_cost == fraction(cost):
                    self.assertLessEqual(set(side), other, (net, source, target))

    def test_ties(self):
        line = (("a", "b"), (("pipe", "a", "x", 1), ("pipe", "x", "y", 1), ("pipe", "b", "y", 1)))
        self.assertEqual(least_side(line, A, B), (1, ("a",)))
        self.assertEqual(least_side(line, B, A), (1, ("b",)))
        self.assertEqual(least_side(EMPTY, A, B), (0, ("a",)))
        self.assertEqual(least_side((ABC, (("pipe", "a", "c", 0), ("pipe", "a", "x", 2))), A, B), (0, ("a", "x")))
        self.assertEqual(least_side((ABC, (("pipe", "a", "c", 2),)), A, B), (0, ("a", "c")))

    def test_one_way(self):
        line = (("a", "b"), (("lead", "a", "x", 5), ("lead", "x", "b", 2), ("lead", "b", "a", 7)))
        self.assertEqual(least_side(line, A, B), (2, ("a", "x")))
        self.assertEqual(least_side(line, B, A), (7, ("b",)))

    def test_through_hubs(self):
        net = (("a", "b"), (("hub", ("a", "x", "y"), 5), ("hub", ("b", "x", "y"), 2)))
        self.assertEqual(least_side(net, A, B), (2, ("a", "x", "y")))
        self.assertEqual(least_side(net, ("x", "y"), B), (2, ("a", "x", "y")))
        self.assertEqual(least_side(net, ("a", "b"), ("x", "y")), (7, ("a", "b")))


class FlowsTest(unittest.TestCase):
    def test_greatest_flows(self):
        for _, net, source, target in drawn_tasks(3, 240):
            amount, flow = greatest_flow(net, source, target)
            self.assertEqual(flow_faults(net, source, target, flow), [], (net, source, target, flow))
            self.assertEqual(flow_amount(net, source, flow), fraction(amount))
            self.assertEqual(amount, least_side(net, source, target)[0])
            self.assertEqual(amount, flow_between(net, source, target))
            self.assertIs(is_flow(net, source, target, flow), True)
            self.assertEqual(amount_of(net, source, target, flow), amount)

    def test_big_nets_of_all_sorts(self):
        draw = random.Random(4)
        inner = [f"p{at}" for at in range(30)]
        for sort in SORTS:
            parts = []
            for at in range(200):
                width = as_number(Fraction(draw.randint(0, 9), draw.randint(1, 4)))
                places = draw.sample([*ABC, *inner], 5)
                if sort == "hubs" and at % 2 == 0:
                    parts.append(("hub", tuple(sorted(places[:draw.randint(2, 5)])), width))
                elif sort == "leads" and at % 2 == 0:
                    parts.append(("lead", places[0], places[1], width))
                else:
                    parts.append(("pipe", *sorted(places[:2]), width))
            net = (ABC, tuple(parts))
            for source, target in ((A, B), (A, ("b", "c")), (("a", "p1"), ("c", "p2"))):
                amount, flow = greatest_flow(net, source, target)
                cost, side = least_side(net, source, target)
                self.assertEqual(flow_faults(net, source, target, flow), [])
                self.assertEqual([flow_amount(net, source, flow), cost_of(net, side)], [fraction(amount)] * 2)
                self.assertEqual(cost, amount)

    def test_what_runs_first_must_be_turned_back(self):
        # The shortest way runs from p to q, but the greatest flow leaves this part empty.
        links = (("a", "p"), ("p", "q"), ("q", "b"), ("a", "u"), ("u", "v"), ("v", "q"), ("p", "w"), ("w", "z"), ("z", "b"))
        for width in (1, (1, 2), LONG):
            leads = tuple(("lead", start, end, width) for start, end in links)
            pipes = tuple(("pipe", *sorted(link), width) for link in links)
            hubs = tuple(("hub", tuple(sorted(link)), width) for link in links)
            for parts in (leads, pipes, hubs):
                net = (AB, parts)
                amount, flow = greatest_flow(net, A, B)
                self.assertEqual(fraction(amount), 2 * fraction(width))
                self.assertEqual(flow_faults(net, A, B, flow), [])
                self.assertEqual(flow_amount(net, A, flow), fraction(amount))

    def test_what_runs_first_through_a_hub_must_be_turned_back(self):
        # r is nearer to the hub than q; but r has another way, and q has none.
        into = (AB, (("pipe", "a", "r", 1), ("pipe", "a", "s", 1), ("pipe", "q", "s", 1), ("hub", ("b", "q", "r"), 1),
                     ("pipe", "r", "t", 1), ("pipe", "t", "u", 1), ("pipe", "u", "v", 1), ("pipe", "b", "v", 1)))
        # The same the other way round: what comes out of the hub goes another way.
        out = (AB, (("pipe", "b", "r", 1), ("pipe", "b", "s", 1), ("pipe", "q", "s", 1), ("hub", ("a", "q", "r"), 1),
                    ("pipe", "r", "t", 1), ("pipe", "t", "u", 1), ("pipe", "u", "v", 1), ("pipe", "a", "v", 1)))
        for net in (into, out):
            amount, flow = greatest_flow(net, A, B)
            self.assertEqual(amount, 2)
            self.assertEqual(flow_faults(net, A, B, flow), [])
            self.assertEqual(least_side(net, A, B)[0], 2)

    def test_no_parts(self):
        self.assertEqual(greatest_flow(EMPTY, A, B), (0, ()))
        self.assertIs(is_flow(EMPTY, A, B, ()), True)
        self.assertIs(is_flow(EMPTY, A, B, []), False)
        self.assertEqual(amount_of(EMPTY, A, B, ()), 0)

    def test_long_numbers(self):
        wide = (("a", "b"), (("pipe", "a", "b", (LONG, LONG + 1)), ("pipe", "a", "x", (1, LONG)), ("pipe", "b", "x", LONG)))
        total = as_number(Fraction(LONG, LONG + 1) + Fraction(1, LONG))
        self.assertEqual(flow_between(wide, A, B), total)
        self.assertEqual(wall(wide, B), total)

    def test_between_two_places_of_one_block_anything_may_run(self):
        net = (ABC, (("pipe", "a", "b", 4), ("pipe", "b", "c", 1)))
        for runs in (4, -4, (1, 3), 0):
            self.assertIs(is_flow(net, ("a", "b"), ("c",), (runs, 1)), True)
            self.assertEqual(amount_of(net, ("a", "b"), ("c",), (runs, 1)), 1)
        self.assertIs(is_flow(net, ("a", "b"), ("c",), (5, 1)), False)
        self.assertEqual(amount_of(net, A, ("b", "c"), (3, -1)), 3)
        self.assertEqual(amount_of(net, A, ("b", "c"), (-3, (1, 2))), -3)

    def test_pipe_flows(self):
        net = (("a", "b"), (("pipe", "a", "x", 3), ("pipe", "b", "x", 2)))
        for flow, amount in (((2, -2), 2), ((0, 0), 0), ((-2, 2), -2), (((3, 2), (-3, 2)), (3, 2))):
            self.assertIs(is_flow(net, A, B, flow), True, flow)
            self.assertEqual(amount_of(net, A, B, flow), amount)
        for flow in ((3, -3), (-3, 3), (2, -1), (2, 2), (2,), (2, -2, 0), [2, -2], (2, None), (True, -1), ((4, 2), -2),
                     (2, (-2,)), None, True, 2, "flow", {}, (), ("2", -2), (2, [-2])):
            self.assertIs(is_flow(net, A, B, flow), False, flow)
            assert_raises(self, amount_of, (net, A, B, flow), BadFlow)

    def test_a_pipe_runs_at_most_its_width_either_way(self):
        net = (("a", "b"), (("pipe", "a", "b", (3, 2)),))
        for runs in ((3, 2), (-3, 2), 1, -1, 0):
            self.assertIs(is_flow(net, A, B, (runs,)), True, runs)
        for runs in (2, -2, (5, 3), (-5, 3)):
            self.assertIs(is_flow(net, A, B, (runs,)), False, runs)

    def test_lead_flows(self):
        net = (("a", "b"), (("lead", "a", "x", 3), ("lead", "x", "b", 2), ("lead", "b", "a", 1)))
        for flow, amount in (((2, 2, 0), 2), ((1, 1, 1), 0), ((0, 0, 1), -1), (((1, 2), (1, 2), (1, 3)), (1, 6))):
            self.assertIs(is_flow(net, A, B, flow), True, flow)
            self.assertEqual(amount_of(net, A, B, flow), amount)
        for flow in ((3, 3, 0), (-1, -1, 0), (2, 2, -1), (2, 1, 0), (2, 2, 2), (2, 2), (2, 2, False), (2, 2, (0, 0))):
            self.assertIs(is_flow(net, A, B, flow), False, flow)
            assert_raises(self, amount_of, (net, A, B, flow), BadFlow)

    def test_hub_flows(self):
        net = (ABC, (("hub", ("a", "b", "x"), 3), ("pipe", "c", "x", 2)))
        for flow, amount in ((((2, -1, -1), -1), 2), (((-3, 3, 0), 0), -3), (((0, 0, 0), 0), 0), (((1, 1, -2), -2), 1),
                             ((((1, 2), (-1, 2), 0), 0), (1, 2))):
            self.assertIs(is_flow(net, A, ("b", "c"), flow), True, flow)
            self.assertEqual(amount_of(net, A, ("b", "c"), flow), amount)
        for flow in (((4, -4, 0), 0), ((2, 2, -4), -4), ((2, -1, -1), 0), ((2, -1, -1), 1), ((2, -1, 0), 0), (2, -1),
                     ((1, -1), 0), ((1, -1, 0, 0), 0), ([1, -1, 0], 0), ((1, -1, False), 0), (None, 0), ((0, 0, 0), (0,)),
                     ((2, -2, "0"), 0), ((-4, 4, 0), 0), ((2, 2, -3), -3), (((2, 2), -1, 0), 0)):
            self.assertIs(is_flow(net, A, ("b", "c"), flow), False, flow)
            assert_raises(self, amount_of, (net, A, ("b", "c"), flow), BadFlow)

    def test_what_is_judged_a_flow(self):
        seen = {True: 0, False: 0}
        for draw, net, source, target in drawn_tasks(5, 200, kind="whole", parts=4):
            for _ in range(6):
                flow = list(greatest_flow(net, source, target)[1])
                for at, part in enumerate(net[1]):
                    if draw.random() < 0.4 and part[0] != "hub":
                        flow[at] = as_number(fraction(flow[at]) + draw.choice((1, -1, Fraction(1, 2))))
                    elif draw.random() < 0.3 and part[0] == "hub":
                        amounts = list(flow[at])
                        first, second = draw.sample(range(len(amounts)), 2)
                        amounts[first] = as_number(fraction(amounts[first]) + 1)
                        amounts[second] = as_number(fraction(amounts[second]) - draw.choice((1, 1, 0)))
                        flow[at] = tuple(amounts)
                fits = flow_faults(net, source, target, tuple(flow)) == []
                self.assertIs(is_flow(net, source, target, tuple(flow)), fits, (net, source, target, flow))
                if fits:
                    told = amount_of(net, source, target, tuple(flow))
                    self.assertEqual(fraction(told), flow_amount(net, source, flow))
                    self.assertLessEqual(fraction(told), fraction(flow_between(net, source, target)))
                seen[fits] += 1
        self.assertGreater(min(seen.values()), 100, seen)


class WallsTest(unittest.TestCase):
    def test_examples(self):
        self.assertEqual(walls(PIPES), {("a",): (3, 2), ("b",): (3, 2), ("c",): 0})
        self.assertEqual(walls(LEADS), {("a",): (1, 2), ("a", "b"): (1, 2), ("a", "c"): 0, ("b",): 1, ("b", "c"): 1,
                                        ("c",): 0})
        self.assertEqual(walls(HUBS), {("a",): (7, 3), ("b",): 2, ("c",): (4, 3)})
        self.assertEqual(walls(EMPTY), {("a",): 0})

    def test_against_a_count_over_all_sides(self):
        for net in drawn_nets(6, 150):
            lots = all_lots(net[0])
            told = slow_walls(net, lots)
            self.assertEqual({lot: wall(net, lot) for lot in lots}, told)
            keys = keys_of(net[0], net_sort(net))
            self.assertEqual(list(walls(net).items()), [(lot, told[lot]) for lot in keys])
            if net_sort(net) != "leads":
                for lot in lots:
                    self.assertEqual(told[lot], told[other_taps(net[0], lot)])

    def test_six_taps(self):
        draw = random.Random(7)
        for sort in SORTS:
            net = drawn_net(draw, NAMES, sort, 2, 9, "whole")
            self.assertEqual(walls(net), slow_walls(net, keys_of(NAMES, net_sort(net))))

    def test_idle_taps(self):
        for net in drawn_nets(8, 60, kind="whole"):
            taps = net[0]
            for first in all_lots(taps):
                rest = other_taps(taps, first)
                for many in range(1, len(rest)):
                    for second in itertools.combinations(rest, many):
                        idle = [tap for tap in rest if tap not in second]
                        lots = [tuple(sorted([*first, *more])) for k in range(len(idle) + 1)
                                for more in itertools.combinations(idle, k)]
                        told = min(fraction(wall(net, lot)) for lot in lots)
                        self.assertEqual(fraction(flow_between(net, first, second)), told)

    def test_facts_on_two_lots(self):
        for net in drawn_nets(9, 90):
            taps = net[0]
            told = {lot: fraction(wall(net, lot)) for lot in all_lots(taps)}
            told[()] = told[taps] = Fraction(0)
            for one, other in itertools.combinations(all_lots(taps), 2):
                both = tuple(tap for tap in one if tap in other)
                either = tuple(sorted({*one, *other}))
                self.assertGreaterEqual(told[one] + told[other], told[both] + told[either])
                if net_sort(net) != "leads":
                    less = tuple(tap for tap in one if tap not in other)
                    more = tuple(tap for tap in other if tap not in one)
                    self.assertGreaterEqual(told[one] + told[other], told[less] + told[more])

    def test_facts_on_nets_made_of_nets(self):
        draw = random.Random(10)
        nets = list(drawn_nets(10, 120))
        for net in nets:
            taps, lots = net[0], all_lots(net[0])
            told = {lot: fraction(wall(net, lot)) for lot in lots}
            more = scaled(net, (2, 3))
            turned = turned_net(net)
            for lot in lots:
                self.assertEqual(fraction(wall(more, lot)), told[lot] * Fraction(2, 3))
                self.assertEqual(fraction(wall(turned, lot)), told[other_taps(taps, lot)])
            for other in nets[:40]:
                if error_of(beside, (net, other)) is None:
                    for lot in lots:
                        self.assertEqual(fraction(wall(beside(net, other), lot)), told[lot] + fraction(wall(other, lot)))
            if len(taps) > 2:
                kept, gone = draw.sample(taps, 2)
                melted, hidden = melted_net(net, kept, gone), hidden_net(net, gone)
                for lot in all_lots(melted[0]):
                    with_gone = tuple(sorted([*lot, gone]))
                    before = told[with_gone] if kept in lot else told[lot]
                    self.assertEqual(fraction(wall(melted, lot)), before)
                    self.assertEqual(fraction(wall(hidden, lot)), min(told[lot], told[with_gone]))

    def test_other_kinds_have_the_same_walls(self):
        for net in drawn_nets(11, 120):
            for function in (as_leads, as_hubs, as_pipes):
                if error_of(function, (net,)) is None:
                    self.assertIs(alike_nets(function(net), net), True)
                    self.assertIs(alike_nets(net, function(net)), True)

    def test_alike_nets(self):
        one = (("a", "b"), (("pipe", "a", "b", 1),))
        for other in ((("lead", "a", "b", 1), ("lead", "b", "a", 1)), (("hub", ("a", "b"), 1),),
                      (("pipe", "a", "x", 1), ("pipe", "b", "x", 3)), (("pipe", "a", "b", (1, 2)),) * 2):
            self.assertIs(alike_nets(one, (("a", "b"), other)), True)
            self.assertIs(alike_nets((("a", "b"), other), one), True)
        for other in ((), (("pipe", "a", "b", 2),), (("lead", "a", "b", 1),), (("lead", "b", "a", 1),),
                      (("lead", "a", "b", 2), ("lead", "b", "a", 1))):
            self.assertIs(alike_nets(one, (("a", "b"), other)), False, other)
            self.assertIs(alike_nets((("a", "b"), other), one), False, other)
        self.assertIs(alike_nets(one, (("a", "c"), (("pipe", "a", "c", 1),))), False)
        self.assertIs(alike_nets(EMPTY, (ABC, ())), False)
        self.assertIs(alike_nets((ABC, ()), (ABC, (("pipe", "a", "x", 1), ("lead", "y", "b", 1)))), True)
        leads = (("a", "b"), (("lead", "a", "b", 1),))
        self.assertIs(alike_nets(leads, leads), True)
        self.assertIs(alike_nets(leads, turned_net(leads)), False)

    def test_alike_nets_drawn(self):
        nets = [net for net in drawn_nets(12, 200, kind="whole", parts=3) if len(net[0]) < 4]
        seen = {True: 0, False: 0}
        for one, other in zip(nets, nets[1:] + nets[:1]):
            lots = all_lots(one[0])
            alike = one[0] == other[0] and slow_walls(one, lots) == slow_walls(other, lots)
            self.assertIs(alike_nets(one, other), alike)
            seen[alike] += 1
        self.assertGreater(min(seen.values()), 3, seen)

    def test_errors(self):
        no_lots = ((), ABC, ("b", "a"), ("a", "a"), ("x",), ("a", "x"), ["a"], "a", None, True, 1, {}, ("a", 1))
        assert_errors(self, wall, (PIPES, A), [(0, BadNet, NO_NETS), (1, BadLot, no_lots)])
        assert_errors(self, walls, (PIPES,), [(0, BadNet, NO_NETS)])
        assert_errors(self, alike_nets, (PIPES, LEADS), [(0, BadNet, NO_NETS), (1, BadNet, NO_NETS)])

    def test_results_are_new(self):
        assert_new(self, walls, (PIPES,))

    def test_parameters_by_name(self):
        self.assertEqual(side_cost(side=A, net=PIPES), 3)
        self.assertIs(is_side(value=A, target=B, source=A, net=PIPES), True)
        self.assertEqual(least_side(target=B, source=A, net=EMPTY), (0, A))
        self.assertIs(is_flow(value=(), target=B, source=A, net=EMPTY), True)
        self.assertEqual(amount_of(flow=(), target=B, source=A, net=EMPTY), 0)
        self.assertEqual(greatest_flow(target=B, source=A, net=EMPTY), (0, ()))
        self.assertEqual(flow_between(target=B, source=A, net=EMPTY), 0)
        self.assertEqual(wall(lot=A, net=EMPTY), 0)
        self.assertEqual(walls(net=EMPTY), {A: 0})
        self.assertIs(alike_nets(another=EMPTY, net=EMPTY), True)

    def test_helpers_of_these_tests(self):
        self.assertEqual(least_cost(PIPES, A, ("b", "c")), Fraction(3, 2))
        self.assertEqual(part_places(("hub", ("a", "b"), 1)), ("a", "b"))


if __name__ == "__main__":
    unittest.main()
