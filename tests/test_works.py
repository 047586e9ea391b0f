import time
import unittest

from checking import (LONG, NAMES, NO_NUMBERS_FROM_0, NO_TAPS, all_lots, as_number, assert_errors, assert_new, assert_raises,
                      drawn_net, error_of, fraction, net_places)
from judging import ABCD, generator
from boxing import (INNER, SEVEN, changed_pieces, contents_faults, drawn_contents, drawn_form, drawn_work, form_faults,
                    net_with_form, slow_sums, slow_walls_of, slow_worth, work_boxes, work_joints)
from test_nets import NO_NETS
from test_verdicts import NO_LOTS

from behindtaps.errors import BadBox, BadContents, BadLot, BadWork, TooMany
from behindtaps.forms import form_of_net, is_form, net_of_form, table_of_form
from behindtaps.nets import is_net, sort_of
from behindtaps.works import (boxes_of, inner_joints, is_work, nested, side_sums, with_nets, work_form, work_worth)

PQ = ("p", "q")
EXAMPLE = (PQ, (("box", "k", ("p", "p", "q", "x")),))
BRIDGE = (("a", "b", "c", "d"), (("box", "l", ("a", "x", "y", "x")), ("pipe", "a", "y", (1, 2)), ("box", "k", ABCD),
                                 ("pipe", "b", "x", 2), ("box", "k", ("x", "y", "c", "c"))))
NO_BOX = (PQ, (("pipe", "p", "x", 2), ("pipe", "q", "x", 3)))
FORM = dict(zip(SEVEN, (1, 2, 0, (1, 2), 3, 0, 4)))
OTHER = dict(zip(SEVEN, (0, 0, 5, 0, (1, 3), 1, 0)))
LOOSE = (("a", "b", "c", "d"), ())
NO_WORKS = (None, True, 1, "work", (), (PQ,), (PQ, (), ()), [PQ, ()], (PQ, []), (PQ, None), (PQ, {}), {}, (("p",), ()),
            (("q", "p"), ()), (PQ, "ab"), (PQ, (("hub", PQ, 1),)), (PQ, (("lead", "p", "q", 1),)),
            (PQ, (("pipe", "q", "p", 1),)), (PQ, (("box", "k", PQ),)), (PQ, (("box", "k", ("p", "q", "p", "q", "p")),)),
            (PQ, (("box", "k", ["p", "q", "p", "q"]),)), (PQ, (("box", "K", ("p", "q", "p", "q")),)),
            (PQ, (("box", "k", "ppqq"),)), (PQ, (("box", "k", ("p", "q", "p", "q"), 1),)),
            (PQ, (("pipe", "p", "q", 1),) * 13), (PQ, (("box", ("p", "q", "p", "q")),)))
NO_FORMS = (None, True, 1, [], (), {}, {**FORM, "hub": 0}, {**FORM, "cross": -1}, {**FORM, "more": 1},
            {key: 1 for key in SEVEN if key != "cross"}, {("b", "c"): 1}, {**FORM, ("a", "b"): True},
            {**{key: 0 for key in SEVEN[1:]}, ("a", "e"): 0}, {("p", "q"): 1})
NO_CONTENTS = (None, True, 1, [], (), {}, {"l": FORM}, {"k": FORM, "K": FORM}, {"k": FORM, 1: FORM},
               [("k", FORM)]) + tuple({"k": form} for form in NO_FORMS) + tuple({"k": FORM, "l": form} for form in NO_FORMS)
BOX_NET = (ABCD, (("pipe", "a", "x", 2), ("pipe", "b", "x", 1), ("pipe", "c", "d", 3)))
NO_BOX_NETS = NO_NETS + ((PQ, ()), (ABCD, (("lead", "a", "b", 1),)), (ABCD, (("hub", ABCD, 1),)), (NAMES[:5], ()),
                         (ABCD, (("hub", ("a", "b"), 0),)), FORM)


class JudgedTest(unittest.TestCase):
    def test_right_ones(self):
        for work in (EXAMPLE, BRIDGE, NO_BOX, LOOSE, (PQ, ()), (NAMES, ())):
            self.assertIs(is_work(work), True, work)
        draw = generator(211)
        for at in range(150):
            work = drawn_work(draw, NAMES[:draw.randint(2, 6)], 5, 3, draw.randint(0, 12), "long")
            self.assertIs(is_work(value=work), True)
            self.assertEqual(boxes_of(work), work_boxes(work))
            self.assertEqual(inner_joints(work), [joint for joint in work_joints(work) if joint not in work[0]])

    def test_wrong_ones(self):
        for value in NO_WORKS:
            self.assertIs(is_work(value), False, value)
        for taps in NO_TAPS:
            self.assertIs(is_work((taps, ())), False)
        for width in NO_NUMBERS_FROM_0:
            self.assertIs(is_work((PQ, (("pipe", "p", "q", width),))), False)

    def test_one_piece_changed(self):
        wrong = 0
        for value in changed_pieces(BRIDGE):
            right = is_work(value)
            self.assertIs(type(right), bool)
            # Only with a use left out or told twice, or a tap left out, it stays a work.
            if right:
                self.assertTrue(set(value[1]) <= set(BRIDGE[1]), value)
            wrong += not right
        self.assertGreater(wrong, 200)

    def test_limits(self):
        pipe = ("pipe", "p", "q", 1)
        self.assertIs(is_work((PQ, (pipe,) * 12)), True)
        self.assertIs(is_work((PQ, (pipe,) * 13)), False)
        inner = tuple(("pipe", "p", f"x{at}", 1) for at in range(6))
        self.assertIs(is_work((PQ, inner[:5])), True)
        self.assertIs(is_work((PQ, inner)), False)
        self.assertIs(is_work((PQ, inner[:4] + (("box", "k", ("x1", "x0", "p", "x4")),))), True)
        self.assertIs(is_work((PQ, inner[:4] + (("box", "k", ("x5", "x0", "p", "x4")),))), False)
        boxes = tuple(("box", f"k{at}", ("p", "p", "p", "q")) for at in range(4))
        self.assertIs(is_work((PQ, boxes[:3] * 4)), True)
        self.assertIs(is_work((PQ, boxes)), False)

    def test_names_of_boxes_and_of_joints_have_nothing_to_do_with_each_other(self):
        work = (PQ, (("box", "p", ("p", "q", "q", "k")), ("box", "k", ("k", "q", "p", "p"))))
        self.assertEqual((boxes_of(work), inner_joints(work)), (["k", "p"], ["k"]))
        self.assertEqual(boxes_of(NO_BOX), [])
        # A box that is called like a tap or a joint is none of them.
        other = (PQ, (("box", "zp", ("p", "q", "q", "k")), ("box", "zk", ("k", "q", "p", "p")), ("pipe", "k", "p", 3)))
        named = (PQ, work[1] + (("pipe", "k", "p", 3),))
        for lot in (("p",), ("q",)):
            told = [((counts[1], counts[0]), width) for counts, width in side_sums(other, lot)]
            self.assertEqual(sorted(side_sums(named, lot)), sorted((counts[::-1], width) for counts, width in told))
        inner = (ABCD, (("pipe", "a", "d", 1),))
        self.assertEqual(nested(named, "k", inner), (PQ, (work[1][0], ("pipe", "k", "p", 1), ("pipe", "k", "p", 3))))
        self.assertEqual(nested(named, "p", inner), (PQ, (("pipe", "k", "p", 1), work[1][1], ("pipe", "k", "p", 3))))
        for function in (boxes_of, inner_joints):
            assert_new(self, function, (BRIDGE,))
            assert_errors(self, function, (BRIDGE,), [(0, BadWork, NO_WORKS)])


class NetsInBoxesTest(unittest.TestCase):
    def test_a_known_one(self):
        taps, parts = with_nets(EXAMPLE, {"k": BOX_NET})
        self.assertEqual(taps, PQ)
        self.assertEqual([part[3] for part in parts], [2, 1, 3])
        inner = [place for place in net_places((taps, parts)) if place not in ("p", "q", "x")]
        self.assertEqual(len(inner), 1)
        self.assertEqual(parts[0][1:3], tuple(sorted(("p", inner[0]))))
        self.assertEqual(parts[2][1:3], ("q", "x"))

    def test_new_names_are_none_of_the_taps_and_joints(self):
        net = (ABCD, (("pipe", "a", "x", 1), ("pipe", "b", "n0", 2), ("pipe", "c", "n1", 3)))
        work = (("n0", "n3"), (("box", "k", ("n0", "n3", "n1", "n2")), ("box", "k", ("n5", "n2", "n3", "n1"))))
        told = with_nets(work, {"k": net})
        self.assertEqual(len(net_places(told)), 5 + 6)
        inner = (ABCD, (("pipe", "a", "x", 1), ("pipe", "b", "x", 2), ("pipe", "c", "y", 3)))
        one = (work[0], work[1][:1])
        taps, uses = nested(one, "k", inner)
        self.assertEqual(len({joint for use in uses for joint in use[1:3]} | {"n2"}), 6)
        self.assertEqual(sorted(inner_joints((taps, uses)))[0], "n1")
        self.assertEqual(len(inner_joints((taps, uses))), 3)
        self.assertEqual(len(inner_joints(nested((("n0", "n1"), (("box", "k", ("n0", "n1", "n2", "n3")),)), "k", inner))), 3)

    def test_each_use_has_other_inner_places_and_loops_are_left_out(self):
        # With both legs at p the pipe from a to b is left out; the inner place of each use is another one.
        net = (ABCD, (("pipe", "a", "b", 7), ("pipe", "a", "x", 1), ("pipe", "c", "x", 1)))
        work = (PQ, (("box", "k", ("p", "p", "q", "q")), ("pipe", "p", "x", 5), ("box", "k", ("p", "p", "x", "q"))))
        taps, parts = with_nets(work, {"k": net})
        self.assertEqual([part[3] for part in parts], [1, 1, 5, 1, 1])
        self.assertEqual(len(net_places((taps, parts))), 5)
        self.assertTrue(is_net((taps, parts)))
        # Legs that lie at one joint carry nothing.
        self.assertEqual(with_nets((PQ, (("box", "k", ("q",) * 4),)), {"k": (ABCD, (("pipe", "a", "d", 1),))}), (PQ, ()))

    def test_drawn_ones_against_work_worth_and_all_sides(self):
        draw = generator(212)
        for at in range(60):
            work = drawn_work(draw, NAMES[:draw.randint(2, 4)], draw.randint(0, 2), 2, draw.randint(0, 4))
            nets = {name: drawn_net(draw, ABCD, "pipes", 1, 5) for name in ("k", "l", "unused")}
            if draw.random() < 0.5:
                nets = {name: nets[name] for name in work_boxes(work)}
            net = with_nets(work, nets)
            self.assertTrue(is_net(net))
            self.assertEqual((net[0], sort_of(net)), (work[0], "pipes"))
            contents = {name: form_of_net(told) for name, told in nets.items()}
            if len(net_places(net)) > 12:
                continue
            for lot, told in slow_walls_of(net).items():
                self.assertEqual(work_worth(work, lot, contents), told)
                self.assertEqual(as_number(slow_worth(work, lot, contents)), told)
            if at % 3 == 0:
                mixed = list(contents.items())[::-1]
                contents = {name: dict(list(form.items())[::-1]) for name, form in mixed}
                lot = all_lots(work[0])[0]
                self.assertEqual(work_worth(work, lot, contents), as_number(slow_worth(work, lot, contents)))

    def test_200_parts_and_40_places(self):
        # Nine uses of 22 pipes and two pipes are 200 parts; legs that lie together leave parts out.
        net = (ABCD, (("pipe", "a", "c", 1),) * 21 + (("pipe", "c", "d", 1),))
        uses = (("box", "k", ("p", "p", "q", "x")),) * 9
        pipe = ("pipe", "p", "q", 1)
        self.assertEqual(len(with_nets((PQ, uses + (pipe,) * 2), {"k": net})[1]), 200)
        assert_raises(self, with_nets, ((PQ, uses + (pipe,) * 3), {"k": net}), TooMany, most=200)
        less = uses[:8] + (("box", "k", ("p", "p", "q", "q")),)
        self.assertEqual(len(with_nets((PQ, less + (pipe,) * 3), {"k": net})[1]), 200)
        chain = (ABCD, tuple(("pipe", "a", f"y{at}", 1) for at in range(18)))
        work = (PQ, (("box", "k", ("p", "q", "p", "q")),) * 2 + (("pipe", "p", "x", 1),))
        self.assertEqual(len(net_places(with_nets(work, {"k": chain}))), 39)
        self.assertEqual(len(net_places(with_nets((PQ, work[1] + (("pipe", "p", "y", 1),)), {"k": chain}))), 40)
        more = (PQ, work[1] + (("pipe", "p", "y", 1), ("pipe", "q", "z", 1)))
        assert_raises(self, with_nets, (more, {"k": chain}), TooMany, most=40)
        # Both at once: parts come first.
        great = (ABCD, chain[1] * 10)
        assert_raises(self, with_nets, (more, {"k": great}), TooMany, most=200)
        assert_raises(self, with_nets, (more, {"k": great, "l": None}), BadContents)

    def test_errors(self):
        assert_errors(self, with_nets, (EXAMPLE, {"k": BOX_NET}), [
            (0, BadWork, NO_WORKS), (1, BadContents, (None, True, [], {}, {"l": BOX_NET}, {"k": BOX_NET, "L": BOX_NET},
                                                      {"k": BOX_NET, 2: BOX_NET}, [("k", BOX_NET)])
                                     + tuple({"k": net} for net in NO_BOX_NETS)
                                     + tuple({"k": BOX_NET, "unused": net} for net in NO_BOX_NETS))])
        self.assertEqual(with_nets(nets={}, work=NO_BOX), NO_BOX)


class SumsTest(unittest.TestCase):
    def test_the_example(self):
        self.assertEqual(side_sums(EXAMPLE, ("p",)), [(((0, 1, 0, 1, 0, 1, 1),), 0), (((0, 1, 1, 1, 1, 0, 2),), 0)])

    def test_drawn_ones(self):
        draw = generator(213)
        for at in range(120):
            work = drawn_work(draw, NAMES[:draw.randint(2, 5)], draw.randint(0, 5), 3, draw.randint(0, 12),
                              draw.choice(("whole", "fraction", "long")))
            lot = draw.choice(all_lots(work[0]))
            wanted = slow_sums(work, lot)
            told = side_sums(work, lot)
            self.assertEqual(told, [(counts, as_number(wanted[counts])) for counts in sorted(wanted)])
            opposite = tuple(tap for tap in work[0] if tap not in lot)
            self.assertEqual(side_sums(work, opposite), told)
            contents = drawn_contents(draw, ["k", "l", "m"])
            self.assertEqual(work_worth(work, lot, contents), as_number(slow_worth(work, lot, contents)))

    def test_of_equal_counts_the_least_width(self):
        self.assertEqual(side_sums(NO_BOX, ("p",)), [((), 2)])
        work = (PQ, (("pipe", "p", "x", (5, 2)), ("pipe", "q", "x", (7, 3)), ("box", "k", ("p", "p", "q", "q"))))
        self.assertEqual(side_sums(work, ("q",)), [(((0, 1, 1, 1, 1, 0, 2),), (7, 3))])
        self.assertEqual(side_sums(LOOSE, ("a", "b")), [((), 0)])

    def test_a_box_used_three_times(self):
        work = (PQ, (("box", "k", ("p", "q", "q", "q")),) * 3)
        self.assertEqual(side_sums(work, ("p",)), [(((3, 3, 3, 0, 0, 0, 3),), 0)])
        self.assertEqual(work_worth(work, ("p",), {"k": FORM}), as_number(3 * sum(map(fraction, (1, 2, 0, 4)))))

    def test_results_are_new(self):
        assert_new(self, side_sums, (BRIDGE, ("a", "c")))

    def test_errors(self):
        assert_errors(self, side_sums, (EXAMPLE, ("p",)), [(0, BadWork, NO_WORKS), (1, BadLot, NO_LOTS + (PQ,))])
        assert_errors(self, work_worth, (EXAMPLE, ("p",), {"k": FORM, "other": OTHER}), [
            (0, BadWork, NO_WORKS), (1, BadLot, NO_LOTS + (PQ,)), (2, BadContents, NO_CONTENTS)])
        self.assertEqual(work_worth(contents={}, lot=("p",), work=NO_BOX), 2)
        self.assertEqual(side_sums(lot=("q",), work=NO_BOX), [((), 2)])


class FormsTest(unittest.TestCase):
    def test_drawn_ones(self):
        draw = generator(214)
        for at in range(80):
            work = drawn_work(draw, ABCD, draw.randint(0, 3), 2, draw.randint(0, 6))
            contents = drawn_contents(draw, ["k", "l"])
            form = work_form(work, contents)
            self.assertEqual(form_faults(form), [])
            self.assertIs(is_form(form), True)
            for lot, told in table_of_form(form).items():
                self.assertEqual(told, as_number(slow_worth(work, lot, contents)))
            nets = {name: net_with_form(told) for name, told in contents.items()}
            if len(net_places(with_nets(work, nets))) < 25:
                self.assertEqual(form_of_net(with_nets(work, nets)), form)

    def test_a_box_alone_and_no_uses(self):
        for form in (FORM, OTHER):
            self.assertEqual(list(work_form((ABCD, (("box", "k", ABCD),)), {"k": form}).items()), list(form.items()))
        self.assertEqual(work_form(LOOSE, {}), dict.fromkeys(SEVEN, 0))
        form = work_form((ABCD, (("box", "k", ("d", "c", "b", "a")),)), {"k": FORM})
        self.assertEqual(form, dict(zip(SEVEN, (0, 3, 0, (1, 2), 2, 1, 4))))

    def test_errors(self):
        work = (ABCD, (("box", "k", ABCD),))
        others = tuple((taps, ()) for taps in (PQ, ("a", "b", "c"), NAMES[:5], ("a", "b", "c", "e")))
        assert_errors(self, work_form, (work, {"k": FORM}), [(0, BadWork, NO_WORKS + others), (1, BadContents, NO_CONTENTS)])
        self.assertEqual(work_form(contents={"k": FORM}, work=work), FORM)
        self.assertEqual(error_of(work_form, (work, {"k": net_of_form(FORM)})).__class__, BadContents)


class NestedTest(unittest.TestCase):
    def test_drawn_ones(self):
        draw = generator(215)
        found = 0
        for at in range(150):
            work = drawn_work(draw, NAMES[:draw.randint(2, 4)], 2, 2, draw.randint(1, 4))
            inner = drawn_work(draw, ABCD, draw.randint(0, 2), 2, draw.randint(0, 3))
            for name in work_boxes(work):
                error = error_of(nested, (work, name, inner))
                if error:
                    self.assertEqual(type(error), TooMany)
                    continue
                told = nested(work, name, inner)
                self.assertIs(is_work(told), True)
                contents = drawn_contents(draw, ["k", "l"])
                put = {**contents, name: work_form(inner, contents)}
                for lot in all_lots(work[0]):
                    self.assertEqual(slow_worth(told, lot, contents), slow_worth(work, lot, put))
                    found += 1
        self.assertGreater(found, 300)

    def test_uses_stand_in_their_places_and_loops_are_left_out(self):
        work = (PQ, (("pipe", "p", "x", 1), ("box", "k", ("q", "p", "p", "x")), ("box", "l", ("p", "p", "q", "q")),
                     ("box", "k", ("p", "q", "x", "x"))))
        inner = (ABCD, (("pipe", "a", "b", 2), ("box", "k", ("a", "d", "c", "b")), ("pipe", "b", "c", 3), ("pipe", "a", "x", 4)))
        taps, uses = nested(work, "k", inner)
        first, second = (use[1] if use[1] not in ("p", "q") else use[2] for use in uses if use[0] == "pipe" and use[3] == 4)
        self.assertEqual(len({first, second, "p", "q", "x"}), 5)
        self.assertEqual(uses, (
            ("pipe", "p", "x", 1), ("pipe", "p", "q", 2), ("box", "k", ("q", "x", "p", "p")),
            ("pipe", *sorted(("q", first)), 4), ("box", "l", ("p", "p", "q", "q")), ("pipe", "p", "q", 2),
            ("box", "k", ("p", "x", "x", "q")), ("pipe", "q", "x", 3), ("pipe", *sorted(("p", second)), 4)))
        self.assertEqual(nested(work, "l", LOOSE), (PQ, work[1][:2] + work[1][3:]))

    def test_twelve_uses_and_13(self):
        work = (PQ, (("box", "k", ("p", "q", "p", "q")),) * 3 + (("pipe", "p", "q", 1),) * 3)
        three = (ABCD, (("pipe", "a", "b", 1), ("pipe", "c", "d", 1), ("pipe", "b", "c", 1)))
        self.assertEqual(len(nested(work, "k", three)[1]), 12)
        four = (ABCD, three[1] + (("pipe", "a", "d", 2),))
        assert_raises(self, nested, (work, "k", four), TooMany, most=12)
        # What is left out does not count: all pipes from a to c lie at one joint.
        loops = (ABCD, three[1] + (("pipe", "a", "c", 2), ("pipe", "b", "d", 2)))
        self.assertEqual(len(nested(work, "k", loops)[1]), 12)

    def test_five_inner_joints_and_6(self):
        inner = (ABCD, (("pipe", "a", "x", 1), ("pipe", "b", "y", 1)))
        work = (PQ, (("box", "k", ("p", "q", "p", "q")),) * 2 + (("pipe", "p", "x", 1),))
        self.assertEqual(len(inner_joints(nested(work, "k", inner))), 5)
        more = (PQ, work[1] + (("pipe", "p", "y", 1),))
        assert_raises(self, nested, (more, "k", inner), TooMany, most=5)
        # A joint of which only what is exchanged spoke goes with it.
        left = (PQ, (("box", "k", ("p", "y", "q", "z")),) + work[1][2:])
        self.assertEqual(inner_joints(nested(left, "k", (ABCD, (("pipe", "a", "c", 1),)))), ["x"])

    def test_three_boxes_and_4(self):
        work = (PQ, (("box", "k", ("p", "q", "p", "q")), ("box", "l", ("p", "q", "p", "q"))))
        inner = (ABCD, (("box", "m", ABCD), ("box", "n", ABCD)))
        self.assertEqual(boxes_of(nested(work, "k", inner)), ["l", "m", "n"])
        more = (ABCD, inner[1] + (("box", "k", ABCD),))
        assert_raises(self, nested, (work, "k", more), TooMany, most=3)
        # Uses, then inner joints, then boxes.
        pipes = tuple(("pipe", "a", f"x{at}", 1) for at in range(5))
        great = (PQ, work[1] + (("pipe", "p", "y", 1),))
        assert_raises(self, nested, (great, "k", (ABCD, more[1] + pipes)), TooMany, most=5)
        great = (PQ, work[1] + (("pipe", "p", "y", 1),) * 5)
        assert_raises(self, nested, (great, "k", (ABCD, more[1] + pipes)), TooMany, most=12)

    def test_errors(self):
        no_boxes = (None, True, 1, "", "l", "p", "K", ("k",), ["k"], {})
        others = tuple((taps, ()) for taps in (PQ, ("a", "b", "c"), NAMES[:5]))
        assert_errors(self, nested, (EXAMPLE, "k", LOOSE), [
            (0, BadWork, NO_WORKS), (1, BadBox, no_boxes), (2, BadWork, NO_WORKS + others)])
        self.assertEqual(nested(inner=LOOSE, name="k", work=EXAMPLE), (PQ, ()))
        assert_raises(self, nested, (NO_BOX, "k", LOOSE), BadBox)

    def test_slowest_answers(self):
        started = time.process_time()
        draw = generator(216)
        for at in range(3):
            work = drawn_work(draw, NAMES, 5, 3, 12, "long", 0.2)
            contents = {name: {key: (LONG + at, LONG + at + 1) for key in SEVEN} for name in "klm"}
            for lot in all_lots(NAMES):
                work_worth(work, lot, contents)
        work = drawn_work(draw, ABCD, 5, 3, 12, "long", 0.2)
        self.assertEqual(contents_faults({"k": work_form(work, contents)}, ["k"]), [])
        self.assertEqual(len(INNER), 5)
        self.assertLess(time.process_time() - started, 60)


if __name__ == "__main__":
    unittest.main()
