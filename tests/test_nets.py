import random
import unittest

from checking import (LONG, NAMES, NO_NUMBERS_FROM_0, NO_SORTS, NO_TAPS, all_lots, as_number, assert_errors, assert_new,
                      assert_raises, drawn_nets, error_of, fraction, net_places, net_sort, other_taps, part_places,
                      slow_walls)

from behindtaps.errors import BadNet, BadNumber, BadPlaces, BadSort, TooMany
from behindtaps.nets import (as_hubs, as_leads, as_pipes, beside, hidden_net, inner_of, is_net, is_of_sort, melted_net,
                             places_of, renamed_net, scaled, sort_of, turned_net, without_empty)

AB = ("a", "b")
ABC = ("a", "b", "c")
PIPES = (ABC, (("pipe", "a", "x", 3), ("pipe", "b", "x", (3, 2)), ("pipe", "c", "y", 0), ("pipe", "x", "y", 1)))
LEADS = (ABC, (("lead", "x", "a", 2), ("pipe", "b", "x", 1), ("lead", "a", "c", (1, 2)), ("lead", "c", "a", 0)))
HUBS = (ABC, (("hub", ("a", "b", "x"), 2), ("pipe", "c", "x", 1), ("hub", ("a", "c"), (1, 3)), ("hub", ABC, 0)))
EMPTY = (AB, ())
BAD_PARTS = (None, True, 1, "pipe", (), ("pipe",), ("pipe", "a", "b"), ("pipe", "b", "a", 1), ("pipe", "a", "a", 1),
             ("pipe", "a", "b", -1), ("pipe", "a", "b", (-1, 2)), ("pipe", "a", "b", True), ("pipe", "a", "b", (2, 4)),
             ("pipe", "a", "b", (2, 1)), ("pipe", "a", "b", None), ("pipe", "a", "b", "1"), ["pipe", "a", "b", 1],
             ("pipe", "a", "b", 1, 1), ("pipe", "a", 1, 1), ("pipe", "a", "B", 1), ("pipe", "", "b", 1),
             ("pipe", "a", "abcdefghi", 1), ("Pipe", "a", "b", 1), ("pipes", "a", "b", 1), (None, "a", "b", 1),
             ("hub", "a", "b", 1), ("pipe", AB, 1), ("lead", "a", "a", 1), ("lead", "a", "b", -1), ("lead", AB, 1),
             ("lead", "a", "b", False), ("lead", "a", "b", [1]), ("lead", "a", None, 1), ("hub", ("a",), 1),
             ("hub", (), 1), ("hub", ("b", "a"), 1), ("hub", ("a", "a"), 1), ("hub", ("a", "a", "b"), 1),
             ("hub", ["a", "b"], 1), ("hub", ("a", 1), 1), ("hub", AB, -1), ("hub", AB, True), ("hub", AB), ("hub", AB, 1, 1),
             ("hub", ("a", "c", "b"), 1), ["hub", AB, 1], ("hub", None, 1), ("hub", "ab", 1), {}, ("tank", AB, 1))
NO_NETS = (None, True, 1, "net", (), (AB,), (AB, (), ()), [AB, ()], (AB, []), (AB, None), (AB, {}), ((), ()), (("a",), ()),
           (("b", "a"), ()), (["a", "b"], ()), (AB, (("pipe", "a", "b", 1), ("pipe", "b", "a", 1))), {},
           (AB, (("lead", "a", "b", 1), ("hub", AB, 1))), (AB, (("hub", AB, 1), ("lead", "a", "b", 0))),
           (AB, (("pipe", "a", "b", 1),) * 201), (AB, "ab"))


def chain(many):
    """A net of pipes with the taps a, b and so many places."""
    return (AB, tuple(("pipe", "a", f"p{at}", 1) for at in range(many - 2)))


def fit_nets():
    return [PIPES, LEADS, HUBS, EMPTY]


def widths(net):
    return [part[-1] for part in net[1]]


class JudgedTest(unittest.TestCase):
    def test_nets_of_all_sorts(self):
        for net in fit_nets():
            self.assertIs(is_net(net), True, net)
        for net in drawn_nets(1, 100):
            self.assertIs(is_net(net), True, net)

    def test_what_is_none(self):
        for net in NO_NETS:
            self.assertIs(is_net(net), False, net)
        for taps in NO_TAPS:
            self.assertIs(is_net((taps, ())), False, taps)
        for part in BAD_PARTS:
            self.assertIs(is_net((AB, (part,))), False, part)
            self.assertIs(is_net((AB, (("pipe", "a", "b", 1), part))), False, part)

    def test_widths(self):
        for width in (0, 1, (1, 2), LONG, (1, LONG), (LONG, LONG + 1)):
            for part in (("pipe", "a", "b", width), ("lead", "b", "a", width), ("hub", AB, width)):
                self.assertIs(is_net((AB, (part,))), True, part)
        for width in NO_NUMBERS_FROM_0:
            for part in (("pipe", "a", "b", width), ("lead", "b", "a", width), ("hub", AB, width)):
                self.assertIs(is_net((AB, (part,))), False, part)

    def test_200_and_201_parts(self):
        for part in (("pipe", "a", "b", 1), ("lead", "b", "a", 0), ("hub", AB, 1)):
            self.assertIs(is_net((AB, (part,) * 200)), True)
            self.assertIs(is_net((AB, (part,) * 201)), False)

    def test_40_and_41_places(self):
        self.assertIs(is_net(chain(40)), True)
        self.assertIs(is_net(chain(41)), False)
        hub = tuple(sorted(f"p{at}" for at in range(38)))
        self.assertIs(is_net((AB, (("hub", hub, 1),))), True)
        self.assertIs(is_net((AB, (("hub", hub + ("z",), 1),))), False)
        self.assertIs(is_net((ABC, (("hub", hub, 1),))), False)
        self.assertIs(is_net((ABC, (("hub", hub[1:], 1), ("pipe", "a", "p10", 0)))), True)
        self.assertIs(is_net((AB, (("hub", hub, 1), ("lead", "a", "b", 1)))), False)

    def test_a_part_may_have_inner_places_alone(self):
        self.assertIs(is_net((AB, (("pipe", "x", "y", 1), ("pipe", "x", "y", 1)))), True)


class SortsAndPlacesTest(unittest.TestCase):
    def test_sort(self):
        self.assertEqual([sort_of(net) for net in fit_nets()], ["pipes", "leads", "hubs", "pipes"])
        self.assertEqual(sort_of((AB, (("lead", "a", "b", 0),))), "leads")
        self.assertEqual(sort_of((AB, (("hub", AB, 0), ("pipe", "a", "b", 1)))), "hubs")
        for net in drawn_nets(2, 60):
            self.assertEqual(sort_of(net), net_sort(net))

    def test_is_of_sort(self):
        told = {"pipes": [True, False, False, True], "leads": [True, True, False, True], "hubs": [True, False, True, True]}
        for sort, fits in told.items():
            self.assertEqual([is_of_sort(net, sort) for net in fit_nets()], fits)
            self.assertIs(is_of_sort(PIPES, sort), True)

    def test_places(self):
        self.assertEqual(places_of(PIPES), ["a", "b", "c", "x", "y"])
        self.assertEqual(inner_of(PIPES), ["x", "y"])
        self.assertEqual(places_of(EMPTY), ["a", "b"])
        self.assertEqual(inner_of(EMPTY), [])
        net = (("b", "m"), (("hub", ("a", "c", "z"), 1), ("pipe", "a1", "b", 1), ("pipe", "a10", "a2", 0)))
        self.assertEqual(places_of(net), ["a", "a1", "a10", "a2", "b", "c", "m", "z"])
        self.assertEqual(inner_of(net), ["a", "a1", "a10", "a2", "c", "z"])
        for net in drawn_nets(3, 60):
            self.assertEqual(places_of(net), net_places(net))
            self.assertEqual(inner_of(net), [place for place in net_places(net) if place not in net[0]])

    def test_results_are_new(self):
        assert_new(self, places_of, (PIPES,))
        assert_new(self, inner_of, (PIPES,))

    def test_errors(self):
        for function in (sort_of, places_of, inner_of):
            assert_errors(self, function, (PIPES,), [(0, BadNet, NO_NETS)])
        assert_errors(self, is_of_sort, (PIPES, "hubs"), [(0, BadNet, NO_NETS), (1, BadSort, NO_SORTS)])

    def test_parameters_by_name(self):
        self.assertIs(is_net(value=PIPES), True)
        self.assertEqual(sort_of(net=PIPES), "pipes")
        self.assertIs(is_of_sort(sort="leads", net=PIPES), True)
        self.assertEqual(places_of(net=EMPTY), ["a", "b"])
        self.assertEqual(inner_of(net=EMPTY), [])


class BesideTest(unittest.TestCase):
    def test_inner_places_of_both_get_new_names(self):
        first = (AB, (("pipe", "a", "x", 1), ("pipe", "b", "x", 2)))
        second = (AB, (("pipe", "a", "x", 3), ("pipe", "x", "y", 4), ("pipe", "b", "y", 5)))
        told = (AB, first[1] + (("pipe", "a", "n0", 3), ("pipe", "n0", "y", 4), ("pipe", "b", "y", 5)))
        self.assertEqual(beside(first, second), told)

    def test_new_names_are_none_of_either_net_and_unlike(self):
        first = (AB, (("pipe", "a", "n0", 1), ("pipe", "a", "n3", 1), ("pipe", "a", "z", 1)))
        second = (AB, (("pipe", "n0", "n1", 1), ("pipe", "n3", "z", 1), ("pipe", "n2", "z", 2)))
        told = (AB, first[1] + (("pipe", "n1", "n4", 1), ("pipe", "n5", "n6", 1), ("pipe", "n2", "n6", 2)))
        self.assertEqual(beside(first, second), told)

    def test_new_names_are_the_first_ones_that_are_free(self):
        first = (AB, tuple(("pipe", "a", place, 1) for place in ("n0", "n2", "x", "y", "z")))
        second = (AB, tuple(("pipe", "a", place, 1) for place in ("n3", "x", "y", "z")))
        told = tuple(("pipe", "a", place, 1) for place in ("n3", "n1", "n4", "n5"))
        self.assertEqual(beside(first, second)[1][5:], told)
        self.assertEqual(beside(second, first)[1][4:], tuple(("pipe", "a", place, 1)
                                                             for place in ("n0", "n2", "n1", "n4", "n5")))
        one = (AB, (("pipe", "a", "n0", 1), ("pipe", "b", "n1", 1)))
        self.assertEqual(beside(one, one)[1][2:], (("pipe", "a", "n2", 1), ("pipe", "b", "n3", 1)))

    def test_taps_called_like_new_names(self):
        taps = ("n0", "n1")
        net = (taps, (("pipe", "n0", "x", 1), ("pipe", "n1", "x", 1)))
        self.assertEqual(beside(net, net), (taps, net[1] + (("pipe", "n0", "n2", 1), ("pipe", "n1", "n2", 1))))

    def test_ends_and_places_are_put_in_order(self):
        first = (AB, (("lead", "x", "y", 1),))
        second = (AB, (("lead", "x", "y", 1), ("lead", "y", "x", 2), ("pipe", "b", "x", 3)))
        self.assertEqual(beside(first, second)[1][1:], (("lead", "n0", "n1", 1), ("lead", "n1", "n0", 2),
                                                        ("pipe", "b", "n0", 3)))
        first = (AB, (("hub", ("a", "x"), 1), ("pipe", "m", "x", 1)))
        second = (AB, (("hub", ("a", "o", "x"), 1), ("pipe", "o", "x", 3), ("hub", ("m", "x"), 1)))
        self.assertEqual(beside(first, second)[1][2:], (("hub", ("a", "n1", "o"), 1), ("pipe", "n1", "o", 3),
                                                        ("hub", ("n0", "n1"), 1)))
        second = (AB, (("hub", ("a", "f", "x"), 1), ("pipe", "o", "x", 3)))
        self.assertEqual(beside((AB, (("pipe", "a", "x", 1),)), second)[1][1:],
                         (("hub", ("a", "f", "n0"), 1), ("pipe", "n0", "o", 3)))

    def test_names_are_told_in_ascending_order_not_in_that_of_parts(self):
        first = (AB, (("pipe", "u", "v", 1),))
        second = (AB, (("pipe", "a", "v", 1), ("pipe", "a", "u", 1)))
        self.assertEqual(beside(first, second)[1][1:], (("pipe", "a", "n1", 1), ("pipe", "a", "n0", 1)))

    def test_pipes_beside_all_sorts(self):
        pipes = (ABC, (("pipe", "a", "b", 1),))
        for net in (PIPES, LEADS, HUBS):
            self.assertEqual(beside(pipes, net), (ABC, pipes[1] + net[1]))
            self.assertEqual(beside(net, pipes), (ABC, net[1] + pipes[1]))

    def test_errors(self):
        others = NO_NETS + (EMPTY, (("a", "b", "d"), ()), LEADS)
        assert_errors(self, beside, (HUBS, PIPES), [(0, BadNet, NO_NETS), (1, BadNet, others)])
        assert_raises(self, beside, (LEADS, HUBS), BadNet)
        assert_raises(self, beside, (HUBS, LEADS), BadNet)
        assert_raises(self, beside, (EMPTY, PIPES), BadNet)

    def test_too_many(self):
        full = (AB, (("pipe", "a", "b", 1),) * 200)
        one = (AB, (("pipe", "a", "b", 1),))
        self.assertEqual(len(beside(full, EMPTY)[1]), 200)
        self.assertEqual(len(beside((AB, full[1][:150]), (AB, full[1][:50]))[1]), 200)
        assert_raises(self, beside, (full, one), TooMany, most=200)
        assert_raises(self, beside, (one, full), TooMany, most=200)
        self.assertEqual(len(places_of(beside(chain(21), chain(21)))), 40)
        assert_raises(self, beside, (chain(21), chain(22)), TooMany, most=40)
        many = (AB, chain(40)[1] + (("pipe", "a", "b", 1),) * 150)
        assert_raises(self, beside, (many, many), TooMany, most=200)
        assert_raises(self, beside, (chain(40), chain(40)), TooMany, most=40)
        wrong = (("a", "c"), (("pipe", "a", "c", 1),) * 200)
        assert_raises(self, beside, (full, wrong), BadNet)
        leads = (AB, (("lead", "a", "b", 1),) * 200)
        assert_raises(self, beside, ((AB, (("hub", AB, 1),) * 200), leads), BadNet)

    def test_equal_parts_stay_twice(self):
        net = (AB, (("pipe", "a", "b", 1), ("pipe", "a", "b", 1)))
        self.assertEqual(beside(net, net), (AB, net[1] * 2))


class ScaledTest(unittest.TestCase):
    def test_widths_are_multiplied(self):
        self.assertEqual(widths(scaled(PIPES, 2)), [6, 3, 0, 2])
        self.assertEqual(widths(scaled(PIPES, (2, 3))), [2, 1, 0, (2, 3)])
        self.assertEqual(widths(scaled(LEADS, (1, 2))), [1, (1, 2), (1, 4), 0])
        self.assertEqual(widths(scaled(HUBS, 0)), [0, 0, 0, 0])
        self.assertEqual(scaled(HUBS, 1), HUBS)
        for net in drawn_nets(4, 60):
            for factor in (0, 3, (5, 7), (1, LONG)):
                told = scaled(net, factor)
                self.assertIs(is_net(told), True)
                self.assertEqual([part[:-1] for part in told[1]], [part[:-1] for part in net[1]])
                self.assertEqual(widths(told), [as_number(fraction(one) * fraction(factor)) for one in widths(net)])

    def test_errors(self):
        assert_errors(self, scaled, (LEADS, 2), [(0, BadNet, NO_NETS), (1, BadNumber, NO_NUMBERS_FROM_0)])


class RenamedTest(unittest.TestCase):
    def test_names_are_exchanged_at_once(self):
        told = (ABC, (("pipe", "a", "y", 3), ("pipe", "b", "y", (3, 2)), ("pipe", "c", "x", 0), ("pipe", "x", "y", 1)))
        self.assertEqual(renamed_net(PIPES, {"x": "y", "y": "x"}), told)
        self.assertEqual(renamed_net(PIPES, {"x": "y", "y": "z"})[1][0], ("pipe", "a", "y", 3))
        self.assertEqual(renamed_net(PIPES, {"x": "y", "y": "z"})[1][3], ("pipe", "y", "z", 1))
        self.assertEqual(renamed_net(PIPES, {}), PIPES)
        self.assertEqual(renamed_net(PIPES, {"x": "x"}), PIPES)

    def test_order_of_ends_and_places(self):
        net = (("b", "c"), (("pipe", "b", "x", 1), ("hub", ("c", "x", "y"), 1), ("hub", ("b", "y"), 0)))
        self.assertEqual(renamed_net(net, {"x": "a", "y": "a1"}),
                         (("b", "c"), (("pipe", "a", "b", 1), ("hub", ("a", "a1", "c"), 1), ("hub", ("a1", "b"), 0))))
        net = (AB, (("lead", "x", "a", 1), ("lead", "y", "x", 2)))
        self.assertEqual(renamed_net(net, {"x": "u", "y": "z"}), (AB, (("lead", "u", "a", 1), ("lead", "z", "u", 2))))

    def test_errors(self):
        no_names = (None, True, 1, "x", [], [("x", "z")], (), {"a": "z"}, {"q": "z"}, {"x": "a"}, {"x": "y"}, {"x": "X"},
                    {"x": None}, {"x": 1}, {"x": ["z"]}, {"x": "z", "y": "z"}, {"x": "z", "a": "a"}, {1: "z"}, {"x": ""},
                    {("x",): "z"}, {None: "z"}, {"x": "abcdefghi"}, {"x": "c"}, {"x": "z", "y": "z1", "z": "y"})
        assert_errors(self, renamed_net, (PIPES, {"x": "z"}), [(0, BadNet, NO_NETS), (1, BadPlaces, no_names)])
        assert_raises(self, renamed_net, (EMPTY, {"x": "y"}), BadPlaces)


class EmptyTest(unittest.TestCase):
    def test_parts_of_width_0_are_left_out(self):
        self.assertEqual(without_empty(PIPES), (ABC, PIPES[1][:2] + PIPES[1][3:]))
        self.assertEqual(without_empty(LEADS), (ABC, LEADS[1][:3]))
        self.assertEqual(without_empty(HUBS), (ABC, HUBS[1][:3]))
        self.assertEqual(without_empty(EMPTY), EMPTY)
        self.assertEqual(without_empty((AB, (("hub", AB, 0),) * 3)), EMPTY)
        self.assertEqual(without_empty((AB, (("pipe", "a", "b", (1, LONG)),) * 2)), (AB, (("pipe", "a", "b", (1, LONG)),) * 2))

    def test_errors(self):
        assert_errors(self, without_empty, (PIPES,), [(0, BadNet, NO_NETS)])


class TurnedTest(unittest.TestCase):
    def test_leads_are_turned_and_others_stay(self):
        told = (ABC, (("lead", "a", "x", 2), ("pipe", "b", "x", 1), ("lead", "c", "a", (1, 2)), ("lead", "a", "c", 0)))
        self.assertEqual(turned_net(LEADS), told)
        self.assertEqual(turned_net(told), LEADS)
        for net in (PIPES, HUBS, EMPTY):
            self.assertEqual(turned_net(net), net)

    def test_errors(self):
        assert_errors(self, turned_net, (PIPES,), [(0, BadNet, NO_NETS)])


class MeltedTest(unittest.TestCase):
    def test_pipes(self):
        net = (ABC, (("pipe", "a", "b", 1), ("pipe", "b", "c", 2), ("pipe", "b", "x", 3), ("pipe", "a", "b", 4)))
        self.assertEqual(melted_net(net, "a", "b"), (("a", "c"), (("pipe", "a", "c", 2), ("pipe", "a", "x", 3))))
        self.assertEqual(melted_net(net, "c", "b"),
                         (("a", "c"), (("pipe", "a", "c", 1), ("pipe", "c", "x", 3), ("pipe", "a", "c", 4))))
        self.assertEqual(melted_net(net, "c", "a"),
                         (("b", "c"), (("pipe", "b", "c", 1), ("pipe", "b", "c", 2), ("pipe", "b", "x", 3),
                                       ("pipe", "b", "c", 4))))
        net = (("a", "m", "z"), (("pipe", "a", "f", 1),))
        self.assertEqual(melted_net(net, "z", "a"), (("m", "z"), (("pipe", "f", "z", 1),)))

    def test_leads_keep_their_way(self):
        net = (ABC, (("lead", "a", "b", 1), ("lead", "b", "a", 1), ("lead", "c", "b", 2), ("lead", "b", "x", 3)))
        self.assertEqual(melted_net(net, "a", "b"), (("a", "c"), (("lead", "c", "a", 2), ("lead", "a", "x", 3))))

    def test_hubs_have_each_place_once(self):
        net = (ABC, (("hub", ABC, 1), ("hub", ("a", "b"), 2), ("hub", ("b", "x"), 3), ("hub", ("a", "b", "x"), 4)))
        self.assertEqual(melted_net(net, "a", "b"),
                         (("a", "c"), (("hub", ("a", "c"), 1), ("hub", ("a", "x"), 3), ("hub", ("a", "x"), 4))))
        self.assertEqual(melted_net(net, "c", "a")[1][0], ("hub", ("b", "c"), 1))
        self.assertEqual(melted_net(net, "c", "a")[1][3], ("hub", ("b", "c", "x"), 4))

    def test_errors(self):
        no_taps = (None, True, 1, "x", "d", "", ["a"], ("a",), {}, "A")
        assert_errors(self, melted_net, (PIPES, "a", "b"),
                      [(0, BadNet, NO_NETS), (1, BadPlaces, no_taps), (2, BadPlaces, no_taps)])
        assert_raises(self, melted_net, (PIPES, "a", "a"), BadPlaces)
        assert_raises(self, melted_net, (EMPTY, "a", "b"), BadPlaces)


class HiddenTest(unittest.TestCase):
    def test_the_tap_becomes_an_inner_place(self):
        for net in (PIPES, LEADS, HUBS):
            self.assertEqual(hidden_net(net, "b"), (("a", "c"), net[1]))
            self.assertIn("b", inner_of(hidden_net(net, "b")))
        net = (ABC, (("pipe", "a", "b", 1),))
        self.assertEqual(inner_of(hidden_net(net, "c")), [])

    def test_errors(self):
        no_taps = (None, True, 1, "x", "d", "", ["a"], ("a",), {})
        assert_errors(self, hidden_net, (PIPES, "a"), [(0, BadNet, NO_NETS), (1, BadPlaces, no_taps)])
        assert_raises(self, hidden_net, (EMPTY, "a"), BadPlaces)


class OtherKindsTest(unittest.TestCase):
    def test_as_leads(self):
        self.assertEqual(as_leads(LEADS), (ABC, (LEADS[1][0], ("lead", "b", "x", 1), ("lead", "x", "b", 1)) + LEADS[1][2:]))
        self.assertEqual(as_leads((AB, (("pipe", "a", "b", (1, 2)),) * 2)),
                         (AB, (("lead", "a", "b", (1, 2)), ("lead", "b", "a", (1, 2))) * 2))
        self.assertEqual(as_leads(EMPTY), EMPTY)
        self.assertEqual(len(as_leads((AB, (("pipe", "a", "b", 1),) * 100))[1]), 200)
        assert_raises(self, as_leads, ((AB, (("pipe", "a", "b", 1),) * 101),), TooMany, most=200)
        self.assertEqual(len(as_leads((AB, (("lead", "a", "b", 1),) * 200))[1]), 200)
        assert_raises(self, as_leads, ((AB, (("lead", "a", "b", 1),) * 199 + (("pipe", "a", "b", 1),)),), TooMany, most=200)
        hub = ("hub", AB, 0)
        assert_raises(self, as_leads, ((AB, (("pipe", "a", "b", 1),) * 150 + (hub,)),), BadNet)
        assert_errors(self, as_leads, (LEADS,), [(0, BadNet, NO_NETS + (HUBS, (AB, (hub,))))])

    def test_as_hubs(self):
        told = (ABC, (HUBS[1][0], ("hub", ("c", "x"), 1)) + HUBS[1][2:])
        self.assertEqual(as_hubs(HUBS), told)
        self.assertEqual(as_hubs(PIPES)[1][1], ("hub", ("b", "x"), (3, 2)))
        self.assertEqual(as_hubs(EMPTY), EMPTY)
        self.assertEqual(len(as_hubs((AB, (("pipe", "a", "b", 1),) * 200))[1]), 200)
        assert_errors(self, as_hubs, (HUBS,), [(0, BadNet, NO_NETS + (LEADS, (AB, (("lead", "a", "b", 0),))))])

    def test_as_pipes(self):
        told = (ABC, (("pipe", "a", "b", 1), ("pipe", "a", "x", 1), ("pipe", "b", "x", 1), ("pipe", "c", "x", 1),
                      ("pipe", "a", "c", (1, 3)), ("pipe", "a", "b", 0), ("pipe", "a", "c", 0), ("pipe", "b", "c", 0)))
        self.assertEqual(as_pipes(HUBS), told)
        self.assertEqual(as_pipes(PIPES), PIPES)
        self.assertEqual(as_pipes(EMPTY), EMPTY)
        self.assertEqual(widths(as_pipes((ABC, (("hub", ABC, 3), ("hub", ABC, (2, 3)))))), [(3, 2)] * 3 + [(1, 3)] * 3)
        four = ("hub", ("a", "b", "c", "x"), 1)
        assert_errors(self, as_pipes, (HUBS,), [(0, BadNet, NO_NETS + (LEADS, (ABC, (four,)), (ABC, HUBS[1] + (four,))))])
        three = ("hub", ABC, 1)
        self.assertEqual(len(as_pipes((ABC, (three,) * 66 + (("pipe", "a", "b", 1),) * 2))[1]), 200)
        assert_raises(self, as_pipes, ((ABC, (three,) * 67),), TooMany, most=200)
        assert_raises(self, as_pipes, ((ABC, (three,) * 100 + (four,)),), BadNet)
        self.assertEqual(len(as_pipes((AB, (("hub", AB, 1),) * 200))[1]), 200)


class DrawnTest(unittest.TestCase):
    def test_results_are_nets_with_the_parts_told(self):
        draw = random.Random(5)
        for net in drawn_nets(6, 150):
            for told in (turned_net(net), without_empty(net), scaled(net, (2, 3)), beside(net, net)):
                self.assertIs(is_net(told), True, told)
                self.assertEqual(told[0], net[0])
            inner = inner_of(net)
            names = dict(zip(inner, draw.sample(["n1", "n7", "q", "x", "y1", "zz"], len(inner))))
            told = renamed_net(net, names)
            self.assertIs(is_net(told), True, told)
            for part, other in zip(net[1], told[1]):
                self.assertEqual({names.get(place, place) for place in part_places(part)}, set(part_places(other)))
            if len(net[0]) > 2:
                kept, gone = draw.sample(net[0], 2)
                self.assertIs(is_net(melted_net(net, kept, gone)), True)
                self.assertNotIn(gone, places_of(melted_net(net, kept, gone)))
                self.assertEqual(hidden_net(net, gone), (other_taps(net[0], (gone,)), net[1]))

    def test_nothing_is_changed(self):
        names = {"x": "z"}
        renamed_net(PIPES, names)
        self.assertEqual(names, {"x": "z"})
        self.assertIsNone(error_of(renamed_net, (PIPES, names)))

    def test_parameters_by_name(self):
        self.assertEqual(beside(second=EMPTY, first=EMPTY), EMPTY)
        self.assertEqual(scaled(factor=2, net=EMPTY), EMPTY)
        self.assertEqual(renamed_net(names={}, net=EMPTY), EMPTY)
        self.assertEqual(without_empty(net=EMPTY), EMPTY)
        self.assertEqual(turned_net(net=EMPTY), EMPTY)
        self.assertEqual(melted_net(gone="b", kept="a", net=(ABC, ())), (("a", "c"), ()))
        self.assertEqual(hidden_net(tap="b", net=(ABC, ())), (("a", "c"), ()))
        self.assertEqual([as_leads(net=EMPTY), as_hubs(net=EMPTY), as_pipes(net=EMPTY)], [EMPTY] * 3)


class SlowWallsTest(unittest.TestCase):
    """The walls, counted over all sides, of nets made of nets."""

    def test_other_kinds_have_the_same_walls(self):
        checked = 0
        for net in drawn_nets(7, 60, kind="whole"):
            lots = all_lots(net[0])
            for function in (as_leads, as_hubs, as_pipes):
                if error_of(function, (net,)) is None:
                    self.assertEqual(slow_walls(function(net), lots), slow_walls(net, lots))
                    checked += 1
        self.assertGreater(checked, 60)

    def test_beside_adds(self):
        nets = [net for net in drawn_nets(8, 80, kind="whole", parts=5) if net[0] == NAMES[:3]]
        for first, second in zip(nets, nets[3:]):
            if error_of(beside, (first, second)) is None:
                lots = all_lots(first[0])
                one, other = slow_walls(first, lots), slow_walls(second, lots)
                self.assertEqual(slow_walls(beside(first, second), lots), {lot: one[lot] + other[lot] for lot in lots})


if __name__ == "__main__":
    unittest.main()
