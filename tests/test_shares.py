import time
import unittest
from fractions import Fraction

from checking import (LONG, NAMES, SORTS, all_lots, as_number, assert_errors, assert_new, assert_raises, drawn_net,
                      drawn_number, fraction, keys_of, net_sort)
from judging import ABCD, generator, least_over_sides
from test_nets import NO_NETS
from test_sendings import LEADS, PIPES, pairs_of, sending_faults, slow_distances

from behindtaps.errors import BadNet, BadWishes, TooMany
from behindtaps.flows import wall
from behindtaps.sendings import carried, is_bar, is_sending, parted
from behindtaps.shares import at_once, sent, share

AB = ("a", "b")
NO_WISHES = (None, True, 1, "wishes", [], (), [(AB, 1)], {("b", "a"): 1}, {("a", "a"): 1}, {("a", "x"): 1}, {"ab": 1},
             {AB: -1}, {AB: (2, 4)}, {AB: None}, {AB: True}, {AB: 1, ("a", "c"): (-1, 2)}, {("a", "b", "c"): 1}, {1: 1})


def walk(net, wishes):
    """The wishes that are above 0, as fractions."""
    return {pair: fraction(wish) for pair, wish in wishes.items() if wish != 0}


def carried_slowly(sending):
    sums = {}
    for pair, _, amount in sending:
        sums[pair] = sums.get(pair, 0) + fraction(amount)
    return sums


def lengths_told(net, wishes, lengths):
    """The sum of width times length, and that of wish times distance."""
    widths = sum((fraction(part[-1]) * fraction(length) for part, length in zip(net[1], lengths)), Fraction(0))
    far = slow_distances(net, lengths)
    return widths, sum((wish * far[pair] for pair, wish in walk(net, wishes).items()), Fraction(0))


def has_way(net, pair):
    return slow_distances(net, (0,) * len(net[1]))[pair] is not None


def parted_slowly(wishes, lot):
    return sum((fraction(wish) for (one, other), wish in wishes.items() if (one in lot) != (other in lot)), Fraction(0))


def assert_share(case, net, wishes):
    """The share, its sending and its lengths, all walked."""
    number, sending, lengths = share(net, wishes)
    most = fraction(number)
    case.assertEqual(sending_faults(net, sending), [], (net, wishes))
    case.assertIs(is_sending(net, sending), True)
    wanted = {pair: wish * most for pair, wish in walk(net, wishes).items() if most > 0}
    case.assertEqual(carried_slowly(sending), wanted, (net, wishes))
    if most == 0:
        case.assertEqual(sending, ())
    if lengths is None:
        case.assertEqual(number, 0)
        case.assertFalse(all(has_way(net, pair) for pair in walk(net, wishes)))
    else:
        case.assertTrue(all(has_way(net, pair) for pair in walk(net, wishes)))
        case.assertTrue(all(fraction(length) >= 0 for length in lengths))
        case.assertEqual(lengths_told(net, wishes, lengths), (most, 1), (net, wishes))
    return most


def assert_sent(case, net, wishes, most):
    """What sent tells, walked; most is the share, None if nothing is wished."""
    word, shown = sent(net, wishes)
    case.assertEqual(word, "sent" if most is None or most >= 1 else "barred", (net, wishes))
    if word == "sent":
        case.assertEqual(sending_faults(net, shown), [])
        case.assertEqual(carried_slowly(shown), walk(net, wishes))
        case.assertEqual(carried(net, shown), {pair: as_number(wish) for pair, wish in sorted(walk(net, wishes).items())})
    else:
        case.assertIs(is_bar(net, wishes, shown), True)
        if all(has_way(net, pair) for pair in walk(net, wishes)):
            widths, distances = lengths_told(net, wishes, shown)
            case.assertLess(widths, distances)


def drawn_wishes(draw, net, kind="whole", many=6):
    pairs = pairs_of(net)
    return {pair: drawn_number(draw, kind) for pair in draw.sample(pairs, draw.randint(1, min(len(pairs), many)))}


class ShareTest(unittest.TestCase):
    def test_one_pair_is_the_wall(self):
        net = (AB, (("pipe", "a", "x", 2), ("pipe", "b", "x", (3, 2)), ("pipe", "a", "b", 1)))
        self.assertEqual(share(net, {AB: 1})[0], (5, 2))
        self.assertEqual(share(net, {AB: (5, 2)})[0], 1)
        self.assertEqual(share(net, {AB: 5})[0], (1, 2))
        draw = generator(201)
        for at in range(60):
            net = drawn_net(draw, AB, SORTS[at % 3], 3, 8)
            most = assert_share(self, net, {AB: 2})
            self.assertEqual(most * 2, least_over_sides(net, ("a",), ("b",)))

    def test_drawn_ones(self):
        draw = generator(202)
        seen = set()
        for at in range(180):
            net = drawn_net(draw, NAMES[:draw.randint(2, 6)], SORTS[at % 3], draw.randint(0, 4), draw.choice((6, 12, 24)))
            wishes = drawn_wishes(draw, net, draw.choice(("whole", "whole", "fraction", "long")))
            if not walk(net, wishes):
                assert_sent(self, net, wishes, None)
                continue
            most = assert_share(self, net, wishes)
            assert_sent(self, net, wishes, most)
            seen.add((net_sort(net), most == 0, most >= 1))
        self.assertGreaterEqual(len(seen), 8)

    def test_at_the_share_and_a_little_beyond(self):
        draw = generator(203)
        for at in range(60):
            net = drawn_net(draw, NAMES[:draw.randint(2, 5)], SORTS[at % 3], 3, 14, "whole")
            wishes = {pair: 1 + at % 3 for pair in drawn_wishes(draw, net)}
            most = assert_share(self, net, wishes)
            if most == 0:
                continue
            just = {pair: as_number(fraction(wish) * most) for pair, wish in wishes.items()}
            assert_sent(self, net, just, Fraction(1))
            more = {pair: as_number(fraction(wish) * (most + Fraction(1, 10 ** 9))) for pair, wish in wishes.items()}
            assert_sent(self, net, more, Fraction(1, 2))

    def test_wishes_of_all_pairs(self):
        draw = generator(207)
        for at in range(9):
            net = drawn_net(draw, NAMES, SORTS[at % 3], 3, 40, "whole")
            net = (NAMES, net[1][:18] + tuple(("pipe", *pair, 1) for pair in zip(NAMES, NAMES[1:])))
            wishes = {pair: draw.randint(1, 5) for pair in pairs_of(net)}
            self.assertEqual(len(wishes), 30 if net_sort(net) == "leads" else 15)
            most = assert_share(self, net, wishes)
            self.assertGreater(most, 0)
            assert_sent(self, net, wishes, most)
            assert_sent(self, net, {pair: as_number(fraction(wish) * most) for pair, wish in wishes.items()}, Fraction(1))

    def test_a_pair_without_a_way(self):
        net = (NAMES[:3], (("pipe", "a", "b", 1),))
        self.assertEqual(share(net, {AB: 1, ("a", "c"): 1}), (0, (), None))
        self.assertEqual(share(net, {AB: 1, ("a", "c"): 0})[0], 1)
        word, lengths = sent(net, {("b", "c"): (1, LONG)})
        self.assertEqual((word, is_bar(net, {("b", "c"): (1, LONG)}, lengths)), ("barred", True))
        # A way through a part of the width 0 is a way.
        self.assertEqual(assert_share(self, (NAMES[:3], (("pipe", "a", "b", 1), ("pipe", "b", "c", 0))), {("a", "c"): 1}), 0)
        one_way = (AB, (("lead", "a", "b", 3),))
        self.assertEqual(share(one_way, {AB: 2})[0], (3, 2))
        self.assertEqual(share(one_way, {("b", "a"): 1}), (0, (), None))

    def test_nothing_wished(self):
        for net in (PIPES, LEADS, (AB, ())):
            self.assertEqual(sent(net, {}), ("sent", ()))
            self.assertEqual(sent(net, {AB: 0}), ("sent", ()))
            assert_raises(self, share, (net, {}), BadWishes)
            assert_raises(self, share, (net, {AB: 0}), BadWishes)
        self.assertEqual(at_once(PIPES, {}), ("sent", ()))

    def test_pairs_where_one_distance_counts_nothing(self):
        # b and c are joined so widely that the share hangs on the way to a alone.
        net = (NAMES[:3], (("pipe", "a", "b", 1), ("pipe", "b", "c", 10 ** 20)))
        wishes = {AB: 1, ("b", "c"): 5, ("a", "c"): 1}
        self.assertEqual(assert_share(self, net, wishes), Fraction(1, 2))

    def test_five_taps_where_no_lot_is_too_small_and_yet_not_all_can_be_sent(self):
        # Two places with a pipe to each of three others: each of the four pairs within a side has the wish 1.
        taps = NAMES[:5]
        net = (taps, tuple(("pipe", *sorted((one, other)), 1) for one in ("a", "b") for other in ("c", "d", "e")))
        wishes = {("a", "b"): 1, ("c", "d"): 1, ("c", "e"): 1, ("d", "e"): 1}
        for lot in all_lots(taps):
            self.assertLessEqual(parted_slowly(wishes, lot), fraction(wall(net, lot)))
            self.assertEqual(fraction(parted(net, wishes, lot)), parted_slowly(wishes, lot))
        self.assertEqual(assert_share(self, net, wishes), Fraction(3, 4))
        self.assertEqual(sent(net, wishes)[0], "barred")

    def test_a_hub_where_no_lot_is_too_small(self):
        # The hub lets 1 through in all, whoever sends; each lot alone has the wall 1.
        net = (ABCD, (("hub", ABCD, 2),))
        wishes = {("a", "b"): 1, ("a", "c"): 1, ("b", "c"): 1}
        for lot in all_lots(ABCD):
            self.assertLessEqual(parted_slowly(wishes, lot), fraction(wall(net, lot)))
        self.assertEqual(assert_share(self, net, wishes), Fraction(2, 3))
        self.assertEqual(sent(net, wishes)[0], "barred")


class AtOnceTest(unittest.TestCase):
    def assert_at_once(self, net, wishes):
        """Just one of the two: the first plain lot that is too small, or a sending that is walked."""
        word, shown = at_once(net, wishes)
        small = [lot for lot in keys_of(net[0], "pipes")
                 if least_over_sides(net, lot, tuple(tap for tap in net[0] if tap not in lot)) < parted_slowly(wishes, lot)]
        if word == "lot":
            self.assertEqual(shown, small[0])
        else:
            self.assertEqual((word, small), ("sent", []))
            self.assertEqual(sending_faults(net, shown), [])
            self.assertEqual(carried_slowly(shown), walk(net, wishes))
        self.assertEqual(sent(net, wishes)[0] == "sent", word == "sent")
        return word

    def test_drawn_ones(self):
        draw = generator(204)
        words = []
        for at in range(150):
            kind = draw.choice(("whole", "fraction", "long"))
            net = drawn_net(draw, NAMES[:draw.randint(2, 4)], "pipes", 3, 12, kind)
            words.append(self.assert_at_once(net, drawn_wishes(draw, net, kind)))
        self.assertGreater(words.count("sent"), 10)
        self.assertGreater(words.count("lot"), 10)

    def test_at_the_least_quotient_and_a_little_beyond(self):
        draw = generator(205)
        found = 0
        for at in range(80):
            net = drawn_net(draw, NAMES[:draw.randint(2, 4)], "pipes", 3, 12, draw.choice(("whole", "fraction", "long")))
            wishes = drawn_wishes(draw, net)
            told = [fraction(wall(net, lot)) / parted_slowly(wishes, lot) for lot in keys_of(net[0], "pipes")
                    if parted_slowly(wishes, lot) > 0]
            if not told:
                continue
            most = min(told)
            self.assertEqual(fraction(share(net, wishes)[0]), most)
            just = {pair: as_number(fraction(wish) * most) for pair, wish in wishes.items()}
            self.assertEqual(self.assert_at_once(net, just), "sent")
            more = {pair: as_number(fraction(wish) * (most + Fraction(1, 10 ** 20))) for pair, wish in wishes.items()}
            self.assertEqual(self.assert_at_once(net, more), "lot")
            found += most > 0
        self.assertGreater(found, 20)

    def test_the_first_plain_lot_is_told(self):
        net = (ABCD, (("pipe", "a", "b", 1), ("pipe", "c", "d", 1)))
        self.assertEqual(at_once(net, {("a", "b"): 2, ("c", "d"): 2}), ("lot", ("a",)))
        self.assertEqual(at_once(net, {("a", "b"): 1, ("c", "d"): 2}), ("lot", ("a", "c")))
        self.assertEqual(at_once(net, {("c", "d"): 2, ("a", "b"): 0}), ("lot", ("c",)))
        self.assertEqual(at_once(net, {("a", "c"): 1, ("a", "b"): 0}), ("lot", ("a", "b")))
        word, sending = at_once(net, {("a", "b"): 1, ("c", "d"): (1, 2)})
        self.assertEqual((word, carried(net, sending)), ("sent", {("a", "b"): 1, ("c", "d"): (1, 2)}))


class ErrorsTest(unittest.TestCase):
    def test_errors(self):
        net = (ABCD[:3], PIPES[1])
        for function in (share, sent, at_once):
            assert_errors(self, function, (net, {AB: 1}), [(0, BadNet, NO_NETS), (1, BadWishes, NO_WISHES)])
        assert_errors(self, share, (LEADS, {("b", "a"): 1}), [(1, BadWishes, ({}, {AB: 0}, {("b", "b"): 1}))])

    def test_at_once_is_for_pipes_with_four_taps(self):
        for wrong in (LEADS, (AB, (("hub", AB, 1),)), (NAMES[:5], ()), (AB, (("lead", "a", "b", 0),)), (NAMES, ())):
            assert_raises(self, at_once, (wrong, {AB: 1}), BadNet)
            assert_raises(self, at_once, (wrong, None), BadNet)
            self.assertEqual(sent(wrong, {}), ("sent", ()))

    def test_thirty_parts(self):
        for part in (("pipe", "a", "b", (1, 30)), ("hub", AB, (1, 30)), ("lead", "a", "b", (1, 30))):
            net, more = ((AB, (part,) * many) for many in (30, 31))
            self.assertEqual(share(net, {AB: 1})[0], 1)
            self.assertEqual(sent(net, {AB: 1})[0], "sent")
            for function in (share, sent):
                assert_raises(self, function, (more, {AB: 1}), TooMany, most=30)
                assert_raises(self, function, (more, {AB: -1}), BadWishes)
            assert_raises(self, sent, (more, {}), TooMany, most=30)
            assert_raises(self, share, (more, {}), BadWishes)
        net = (AB, (("pipe", "a", "b", 1),) * 31)
        assert_raises(self, at_once, (net, {AB: 1}), TooMany, most=30)
        assert_raises(self, at_once, (net, {}), TooMany, most=30)
        assert_raises(self, at_once, (net, []), BadWishes)
        self.assertEqual(at_once((AB, net[1][:30]), {AB: 30})[0], "sent")

    def test_parameters_by_name_and_nothing_is_changed(self):
        wishes = {("a", "c"): 1, AB: (1, 2)}
        self.assertEqual(share(wishes=wishes, net=PIPES), share(PIPES, wishes))
        self.assertEqual(sent(wishes=wishes, net=PIPES), sent(PIPES, wishes))
        self.assertEqual(at_once(wishes=wishes, net=PIPES), at_once(PIPES, wishes))
        self.assertEqual(list(wishes.items()), [(("a", "c"), 1), (AB, (1, 2))])
        # The order of wishes means nothing to what is not open.
        self.assertEqual(share(PIPES, dict(reversed(wishes.items())))[0], share(PIPES, wishes)[0])
        assert_new(self, lambda net, told: list(share(net, told)[1]), (PIPES, wishes))

    def test_slowest_answers(self):
        draw = generator(206)
        started = time.process_time()
        for sort in SORTS:
            for kind in ("whole", "long"):
                net = (NAMES, ())
                while len(net[1]) < 30:
                    net = drawn_net(draw, NAMES, sort, 5, 90, kind)
                net = (NAMES, net[1][:30])
                wishes = {pair: drawn_number(draw, kind) + 1 if kind == "whole" else drawn_number(draw, kind)
                          for pair in draw.sample(pairs_of(net), 6)}
                share(net, wishes)
                sent(net, wishes)
        self.assertLess(time.process_time() - started, 60)


if __name__ == "__main__":
    unittest.main()
