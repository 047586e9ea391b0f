import itertools
import time
import unittest
from fractions import Fraction

from checking import (LONG, NAMES, NO_NUMBERS, NO_NUMBERS_FROM_0, SORTS, all_lots, as_number, assert_errors, assert_new,
                      assert_raises, drawn_net, error_of, fraction, net_places, net_sort, part_places)
from judging import generator
from test_nets import NO_NETS
from test_verdicts import NO_LOTS

from behindtaps.errors import BadLengths, BadLot, BadNet, BadNumber, BadPlaces, BadSending, BadWishes, TooMany
from behindtaps.nets import beside
from behindtaps.sendings import carried, distance, is_bar, is_sending, loads, mixed, parted, sent_beside, shrunk

AB = ("a", "b")
ABC = ("a", "b", "c")
PIPES = (ABC, (("pipe", "a", "x", 2), ("pipe", "b", "x", 2), ("pipe", "c", "x", (3, 2)), ("pipe", "a", "b", 1)))
LEADS = (ABC, (("lead", "a", "x", 2), ("lead", "x", "b", 2), ("lead", "b", "c", 1), ("pipe", "a", "c", 1)))
HUBS = (ABC, (("hub", ("a", "b", "x"), 2), ("pipe", "c", "x", 1), ("hub", ("b", "c"), 1)))
STEPS = ((0, "x"), (1, "b"))
WAY = (AB, STEPS, (1, 2))


def steps_from(net, place):
    """All steps that start at a place."""
    for at, part in enumerate(net[1]):
        places = part_places(part)
        for other in places:
            if part[0] == "lead":
                if (place, other) == places and other != place:
                    yield at, other
            elif place in places and other != place:
                yield at, other


def sending_faults(net, sending):
    """What is wrong with a sending, its kinds of values being right."""
    loaded = [Fraction(0)] * len(net[1])
    for pair, way, amount in sending:
        place = pair[0]
        if fraction(amount) <= 0 or not way or len(way) > 200 or pair[0] == pair[1] or not set(pair) <= set(net[0]):
            return ["triple"]
        if net_sort(net) != "leads" and pair[0] > pair[1]:
            return ["pair"]
        for part, end in way:
            if not 0 <= part < len(net[1]) or (part, end) not in steps_from(net, place):
                return ["step"]
            loaded[part] += fraction(amount)
            place = end
        if place != pair[1]:
            return ["end"]
    return [at for at, part in enumerate(net[1]) if loaded[at] > fraction(part[-1])]


def drawn_way(draw, net, pair):
    """A way of at most 12 steps, None if chance does not lead there."""
    place, way = pair[0], []
    for _ in range(12):
        steps = list(steps_from(net, place))
        if not steps:
            return None
        way.append(draw.choice(steps))
        place = way[-1][1]
        if place == pair[1] and draw.random() < 0.7:
            return tuple(way)
    return None


def pairs_of(net):
    """All pairs of the net."""
    pairs = itertools.permutations(net[0], 2)
    return [pair for pair in pairs if net_sort(net) == "leads" or pair[0] < pair[1]]


def drawn_sending(draw, net, most=5):
    """A sending that loads some part fully, if chance gives any way."""
    triples = []
    for _ in range(draw.randint(0, most)):
        pair = draw.choice(pairs_of(net))
        way = drawn_way(draw, net, pair)
        if way and all(net[1][part][-1] != 0 for part, _ in way):
            triples.append((pair, way, draw.choice((Fraction(1), Fraction(2), Fraction(1, 3)))))
    loaded = {}
    for _, way, amount in triples:
        for part, _ in way:
            loaded[part] = loaded.get(part, 0) + amount
    share = min([fraction(net[1][part][-1]) / load for part, load in loaded.items()], default=Fraction(1))
    return tuple((pair, way, as_number(amount * share)) for pair, way, amount in triples)


def drawn_nets(seed, many):
    draw = generator(seed)
    for at in range(many):
        yield draw, drawn_net(draw, NAMES[:draw.randint(2, 5)], SORTS[at % 3], 2, 14)


def slow_distances(net, lengths):
    """The least lengths of ways between all places, None where there is none."""
    places = net_places(net)
    far = {(one, other): None for one in places for other in places}
    for one in places:
        for part, other in steps_from(net, one):
            length = fraction(lengths[part])
            if far[one, other] is None or length < far[one, other]:
                far[one, other] = length
    for middle, one, other in itertools.product(places, repeat=3):
        if far[one, middle] is not None and far[middle, other] is not None:
            length = far[one, middle] + far[middle, other]
            if far[one, other] is None or length < far[one, other]:
                far[one, other] = length
    return far


class SendingTest(unittest.TestCase):
    def test_known_ones(self):
        for net, sending in (
                (PIPES, ()), (PIPES, (WAY,)), (PIPES, (WAY,) * 4), (PIPES, ((AB, ((3, "b"),), 1),)),
                (PIPES, ((AB, ((3, "b"), (3, "a"), (3, "b")), (1, 3)),)),
                # Through another tap, and to the last one more than once.
                (PIPES, ((("a", "c"), ((3, "b"), (1, "x"), (2, "c"), (2, "x"), (2, "c")), (1, 2)),)),
                (LEADS, ((AB, STEPS, 2),)), (LEADS, ((("b", "a"), ((2, "c"), (3, "a")), 1),)),
                (LEADS, ((("c", "a"), ((3, "a"),), (1, 2)), (("a", "c"), ((3, "c"),), (1, 2)))),
                (HUBS, ((("a", "c"), ((0, "x"), (1, "c")), 1), (AB, ((0, "b"),), 1))),
                (HUBS, ((("b", "c"), ((0, "a"), (0, "x"), (1, "c")), 1),)), (HUBS, ((("b", "c"), ((2, "c"),), (1, LONG)),))):
            self.assertEqual(sending_faults(net, sending), [])
            self.assertIs(is_sending(net, sending), True, (net, sending))

    def test_all_directions_count_together(self):
        forth = (("a", "c"), ((0, "x"), (2, "c")), 1)
        back = (("b", "c"), ((1, "x"), (0, "a"), (0, "x"), (2, "c")), (1, 2))
        self.assertIs(is_sending(PIPES, (forth, back)), True)
        self.assertEqual(loads(PIPES, (forth, back)), [2, (1, 2), (3, 2), 0])
        self.assertIs(is_sending(PIPES, (forth, back, (AB, STEPS, (1, LONG)))), False)
        hub = (AB, (("hub", AB, 1),))
        self.assertIs(is_sending(hub, ((AB, ((0, "b"), (0, "a"), (0, "b")), (1, 3)),)), True)
        self.assertIs(is_sending(hub, ((AB, ((0, "b"), (0, "a"), (0, "b")), (LONG // 3 + 1, LONG)),)), False)
        self.assertIs(is_sending((AB, (("pipe", "a", "b", 0),)), ((AB, ((0, "b"),), (1, LONG)),)), False)

    def test_drawn_ones_and_ones_with_one_thing_wrong(self):
        right = 0
        for draw, net in drawn_nets(101, 150):
            sending = drawn_sending(draw, net)
            self.assertEqual(sending_faults(net, sending), [])
            self.assertIs(is_sending(net, sending), True)
            right += len(sending) > 0
            full = [part for part, load in enumerate(loads(net, sending)) if load == net[1][part][-1]]
            for at, (pair, way, amount) in enumerate(sending):
                more = as_number(fraction(amount) + Fraction(1, LONG))
                self.assertIs(is_sending(net, self.exchanged(sending, at, (pair, way, more))),
                              not any(part in full for part, _ in way))
                step = draw.randrange(len(way))
                part, place = way[step]
                for other in ((part, draw.choice(net_places(net))), (draw.randrange(len(net[1])), place)):
                    value = self.exchanged(sending, at, (pair, (*way[:step], other, *way[step + 1:]), amount))
                    self.assertIs(is_sending(net, value), sending_faults(net, value) == [])
                for other in ((-1, place), (len(net[1]), place), (bool(part), place), ((part, 1), place), (str(part), place),
                              (part, "zz"), (part, None), (part, 1), (part, (place,)), (part,), (part, place, place),
                              [part, place], None, part, place, ()):
                    value = self.exchanged(sending, at, (pair, (*way[:step], other, *way[step + 1:]), amount))
                    self.assertIs(is_sending(net, value), False, (net, value))
                for other in (way[:-1], way[1:], way + way, way[::-1]):
                    value = self.exchanged(sending, at, (pair, other, amount))
                    self.assertIs(is_sending(net, value), sending_faults(net, value) == [])
                wrong = [(pair, (), amount), (pair, list(way), amount), (pair, way, 0), (pair, way, -1), (pair, way), (pair, way, amount, amount),
                         [pair, way, amount], (list(pair), way, amount), (pair[:1], way, amount), (pair[::-1], way, amount),
                         ((pair[0], pair[0]), way, amount), ((pair[0], "zz"), way, amount), ((None, pair[1]), way, amount),
                         (pair + pair, way, amount), None, (), 1, "way", (way, pair, amount), ("ab", way, amount)]
                for other in wrong + [(pair, way, number) for number in NO_NUMBERS]:
                    self.assertIs(is_sending(net, self.exchanged(sending, at, other)), False, (net, other))
            for value in (list(sending), None, True, 0, "sending", {}):
                self.assertIs(is_sending(net, value), False)
        self.assertGreater(right, 50)
        assert_errors(self, is_sending, (PIPES, None), [(0, BadNet, NO_NETS)])
        self.assertIs(is_sending(value=(), net=PIPES), True)

    def exchanged(self, sending, at, triple):
        return sending[:at] + (triple,) + sending[at + 1:]

    def test_pairs(self):
        turned = (("b", "a"), ((3, "a"),), (1, 2))
        self.assertIs(is_sending(PIPES, (turned,)), False)
        self.assertIs(is_sending((ABC, PIPES[1] + (("lead", "a", "b", 0),)), (turned,)), True)
        self.assertIs(is_sending(HUBS, ((("b", "a"), ((0, "a"),), 1),)), False)
        self.assertIs(is_sending(PIPES, ((("a", "x"), ((0, "x"),), 1),)), False)
        self.assertIs(is_sending((("b", "c"), (("pipe", "a", "b", 1),)), ((AB, ((0, "b"),), 1),)), False)

    def test_limits(self):
        there_and_back = ((3, "b"), (3, "a"))
        ways = [there_and_back * 99 + ((0, "x"), (1, "b")), there_and_back * 100 + ((3, "b"),)]
        self.assertEqual([len(way) for way in ways], [200, 201])
        for way, right in zip(ways, (True, False)):
            self.assertIs(is_sending(PIPES, ((AB, way, (1, 1000)),)), right)
        triple = (AB, ((3, "b"),), (1, 2001))
        self.assertIs(is_sending(PIPES, (triple,) * 2000), True)
        self.assertIs(is_sending(PIPES, (triple,) * 2001), False)

    def test_carried_and_loads(self):
        sending = (WAY, (("a", "c"), ((0, "x"), (2, "c")), 1), WAY, (AB, ((3, "b"), (3, "a"), (3, "b")), (1, 4)))
        self.assertEqual(list(carried(PIPES, sending).items()), [(AB, (5, 4)), (("a", "c"), 1)])
        self.assertEqual(loads(PIPES, sending), [2, 1, 1, (3, 4)])
        self.assertEqual(carried(PIPES, ()), {})
        self.assertEqual(loads(PIPES, ()), [0, 0, 0, 0])
        self.assertEqual(loads((AB, ()), ()), [])
        for draw, net in drawn_nets(102, 100):
            sending = drawn_sending(draw, net)
            expected, loaded = {}, [Fraction(0)] * len(net[1])
            for pair, way, amount in sending:
                expected[pair] = expected.get(pair, 0) + fraction(amount)
                for part, _ in way:
                    loaded[part] += fraction(amount)
            self.assertEqual(list(carried(net, sending).items()),
                             [(pair, as_number(expected[pair])) for pair in sorted(expected)])
            self.assertEqual(loads(net, sending), [as_number(load) for load in loaded])
        for function in (carried, loads):
            assert_errors(self, function, (PIPES, sending_of(PIPES)), [(0, BadNet, NO_NETS), (1, BadSending, no_sendings())])
            assert_new(self, function, (PIPES, sending_of(PIPES)))
            self.assertIsNone(error_of(function, (PIPES, ())))
        self.assertEqual(carried(sending=(), net=PIPES), {})
        self.assertEqual(loads(sending=(), net=PIPES), [0] * 4)


def sending_of(net):
    return ((AB, ((3, "b"),), (1, 2)),) if net == PIPES else ()


def no_sendings():
    return (None, True, 1, [], [WAY], (WAY,) * 5, (None,), ((AB, STEPS, 0),), ((AB, STEPS, 3),), ((("b", "a"), STEPS, 1),), {},
            ((AB, (), 1),), ((AB, STEPS[:1], 1),))


class WishesTest(unittest.TestCase):
    def test_parted(self):
        wishes = {("a", "b"): 2, ("b", "c"): (1, 2), ("a", "c"): 3}
        self.assertEqual(parted(PIPES, wishes, ("a",)), 5)
        self.assertEqual(parted(PIPES, wishes, ("b", "c")), 5)
        self.assertEqual(parted(HUBS, wishes, ("b",)), (5, 2))
        self.assertEqual(parted(LEADS, wishes, ("b",)), (1, 2))
        self.assertEqual(parted(LEADS, {**wishes, ("c", "b"): LONG}, ("c",)), LONG)
        self.assertEqual(parted(LEADS, {("b", "a"): 7}, ("a",)), 0)
        self.assertEqual(parted(lot=("a",), wishes={}, net=PIPES), 0)
        for draw, net in drawn_nets(103, 100):
            wishes = {pair: draw.choice((0, 1, (1, 3), LONG)) for pair in pairs_of(net) if draw.random() < 0.7}
            for lot in all_lots(net[0]):
                if net_sort(net) == "leads":
                    chosen = [wish for (x, y), wish in wishes.items() if x in lot and y not in lot]
                else:
                    chosen = [wish for (x, y), wish in wishes.items() if (x in lot) is not (y in lot)]
                self.assertEqual(parted(net, wishes, lot), as_number(sum(map(fraction, chosen), Fraction(0))))

    def test_errors(self):
        no_wishes = (None, True, 1, [], (), "ab", [(AB, 1)], {("b", "a"): 1}, {("a", "a"): 1}, {("a", "x"): 1}, {"ab": 1},
                     {("a",): 1}, {("a", "b", "c"): 1}, {1: 1}, {("a", 1): 1}, {AB: 1, ("b", "z"): 0}, {None: 0},
                     *({AB: number} for number in NO_NUMBERS_FROM_0))
        lots = [lot for lot in NO_LOTS if lot != ("a", "b", "c", "d")] + [ABC]
        assert_errors(self, parted, (PIPES, {AB: 1}, ("a",)), [(0, BadNet, NO_NETS), (1, BadWishes, no_wishes), (2, BadLot, lots)])
        assert_errors(self, is_bar, (PIPES, {AB: 1}, None), [(0, BadNet, NO_NETS), (1, BadWishes, no_wishes)])
        self.assertIsNone(error_of(parted, (LEADS, {("b", "a"): 1}, ("a",))))


class LengthsTest(unittest.TestCase):
    def test_distance(self):
        lengths = (1, 2, (1, 2), 9)
        self.assertEqual(distance(PIPES, lengths, AB), 3)
        self.assertEqual(distance(PIPES, lengths, ("a", "c")), (3, 2))
        self.assertEqual(distance(PIPES, (0, 0, 0, 0), AB), 0)
        self.assertEqual(distance(LEADS, (1, 1, 1, 5), ("c", "b")), 7)
        self.assertEqual(distance(LEADS, (1, 1, 1, 5), ("b", "a")), 6)
        self.assertEqual(distance(HUBS, (LONG, (1, LONG), 1), ("a", "c")), as_number(LONG + Fraction(1, LONG)))
        one_way = (ABC, (("lead", "a", "b", 1),))
        self.assertIsNone(distance(one_way, (1,), ("b", "a")))
        self.assertIsNone(distance(one_way, (1,), ("a", "c")))
        self.assertEqual(distance(pair=AB, lengths=(4,), net=one_way), 4)
        # Parts of the width 0 are parts.
        self.assertEqual(distance((AB, (("pipe", "a", "b", 0),)), (3,), AB), 3)
        for draw, net in drawn_nets(104, 120):
            lengths = tuple(draw.choice((0, 1, 2, (1, 3), 7)) for _ in net[1])
            far = slow_distances(net, lengths)
            for pair in pairs_of(net):
                told = distance(net, lengths, pair)
                self.assertEqual(told, far[pair] if far[pair] is None else as_number(far[pair]))

    def test_errors(self):
        no_lengths = (None, True, 1, [], [1] * 4, (), (1,) * 3, (1,) * 5, "1111", {},
                      *((1, 1, number, 1) for number in NO_NUMBERS_FROM_0))
        no_pairs = (None, True, 1, "ab", (), ("a",), ("b", "a"), ("a", "a"), ("a", "x"), ["a", "b"], ("a", 1), ("a", "b", "c"))
        assert_errors(self, distance, (PIPES, (1,) * 4, AB), [(0, BadNet, NO_NETS), (1, BadLengths, no_lengths),
                                                              (2, BadPlaces, no_pairs)])
        for value in no_lengths:
            self.assertIs(is_bar(PIPES, {AB: LONG}, value), False)
        self.assertIsNone(error_of(distance, (LEADS, (1,) * 4, ("b", "a"))))

    def test_bars(self):
        net = (AB, (("pipe", "a", "b", 2),))
        self.assertIs(is_bar(net, {AB: 2}, (1,)), False)
        self.assertIs(is_bar(net, {AB: (2 * LONG + 1, LONG)}, (1,)), True)
        self.assertIs(is_bar(net, {AB: 3}, (0,)), False)
        self.assertIs(is_bar(net, {}, (1,)), False)
        self.assertIs(is_bar(net, {AB: 0}, (1,)), False)
        apart = (ABC, net[1])
        self.assertIs(is_bar(apart, {("a", "c"): 0}, (1,)), False)
        self.assertIs(is_bar(apart, {("a", "c"): (1, LONG)}, (1,)), True)
        self.assertIs(is_bar(apart, {("a", "c"): 1}, (1, 1)), False)
        self.assertIs(is_bar((AB, ()), {AB: 1}, ()), True)
        self.assertIs(is_bar(value=(), wishes={}, net=(AB, ())), False)
        seen = {True: 0, False: 0}
        for draw, net in drawn_nets(105, 200):
            lengths = tuple(draw.choice((0, 1, 2, (1, 3))) for _ in net[1])
            wishes = {pair: draw.choice((0, 1, 2, (1, 3))) for pair in pairs_of(net) if draw.random() < 0.6}
            far = slow_distances(net, lengths)
            total = sum((fraction(part[-1]) * fraction(length) for part, length in zip(net[1], lengths)), Fraction(0))
            wished = [(fraction(wish), far[pair]) for pair, wish in wishes.items() if wish != 0]
            right = any(length is None for _, length in wished) or total < sum(wish * length for wish, length in wished)
            self.assertIs(is_bar(net, wishes, lengths), right)
            seen[right] += 1
        self.assertGreater(min(seen.values()), 40)

    def test_no_lengths_bar_what_is_sent(self):
        for draw, net in drawn_nets(106, 100):
            wishes = carried(net, drawn_sending(draw, net))
            for _ in range(5):
                self.assertIs(is_bar(net, wishes, tuple(draw.choice((0, 1, 2, (1, 3))) for _ in net[1])), False)


class MadeOfOthersTest(unittest.TestCase):
    def test_shrunk(self):
        self.assertEqual(shrunk(PIPES, (WAY, WAY), (1, 3)), ((AB, STEPS, (1, 6)),) * 2)
        self.assertEqual(shrunk(factor=1, sending=(WAY,), net=PIPES), (WAY,))
        self.assertEqual(shrunk(PIPES, (), (1, 2)), ())
        for draw, net in drawn_nets(107, 60):
            sending = drawn_sending(draw, net)
            told = shrunk(net, sending, (2, 7))
            self.assertEqual(sending_faults(net, told), [])
            self.assertEqual([fraction(amount) for *_, amount in told],
                             [fraction(amount) * Fraction(2, 7) for *_, amount in sending])
            self.assertEqual([triple[:2] for triple in told], [triple[:2] for triple in sending])
        factors = (*NO_NUMBERS_FROM_0, 0, 2, (LONG + 1, LONG))
        assert_errors(self, shrunk, (PIPES, (WAY,), (1, 2)), [(0, BadNet, NO_NETS), (1, BadSending, no_sendings()),
                                                              (2, BadNumber, factors)])

    def test_mixed(self):
        other = (("a", "c"), ((0, "x"), (2, "c")), 1)
        self.assertEqual(mixed(PIPES, (WAY,), (other, WAY), (1, 4)),
                         ((AB, STEPS, (1, 8)), (*other[:2], (3, 4)), (AB, STEPS, (3, 8))))
        self.assertEqual(mixed(factor=(1, 2), more=(), sending=(), net=PIPES), ())
        for draw, net in drawn_nets(108, 80):
            one, more = drawn_sending(draw, net), drawn_sending(draw, net)
            factor = draw.choice(((1, 2), (1, LONG), (LONG - 1, LONG)))
            told = mixed(net, one, more, factor)
            self.assertIs(is_sending(net, told), True)
            self.assertEqual(sending_faults(net, told), [])
            share = fraction(factor)
            expected = [(*triple[:2], as_number(fraction(triple[2]) * share)) for triple in one]
            expected += [(*triple[:2], as_number(fraction(triple[2]) * (1 - share))) for triple in more]
            self.assertEqual(told, tuple(expected))
        factors = (*NO_NUMBERS_FROM_0, 0, 1, 2, (LONG + 1, LONG))
        assert_errors(self, mixed, (PIPES, (WAY,), (WAY,), (1, 2)), [
            (0, BadNet, NO_NETS), (1, BadSending, no_sendings()), (2, BadSending, no_sendings()), (3, BadNumber, factors)])

    def test_too_many_triples(self):
        triple = (AB, ((3, "b"),), (1, 4000))
        some, more = (triple,) * 1000, (triple,) * 1001
        self.assertEqual(len(mixed(PIPES, some, some, (1, 2))), 2000)
        assert_raises(self, mixed, (PIPES, some, more, (1, 2)), TooMany, most=2000)
        assert_raises(self, mixed, (PIPES, some, more, 1), BadNumber)
        self.assertEqual(len(sent_beside(PIPES, some, PIPES, some)), 2000)
        assert_raises(self, sent_beside, (PIPES, more, PIPES, some), TooMany, most=2000)
        assert_raises(self, sent_beside, (PIPES, more, (ABC, PIPES[1] * 50), some), TooMany, most=200)

    def test_sent_beside(self):
        # Of the second net x is renamed n0, y stays; its parts are counted behind the four of the first one.
        second = (ABC, (("pipe", "b", "y", 1), ("pipe", "a", "x", 1), ("pipe", "x", "y", 1)))
        more = ((AB, ((1, "x"), (2, "y"), (0, "b")), 1),)
        told = sent_beside(PIPES, (WAY,), second, more)
        self.assertEqual(told, (WAY, (AB, ((5, "n0"), (6, "y"), (4, "b")), 1)))
        self.assertIs(is_sending(beside(PIPES, second), told), True)
        self.assertEqual(sent_beside(more=(), second=PIPES, sending=(WAY,), first=PIPES), (WAY,))
        draw = generator(109)
        found = 0
        for at in range(100):
            taps = NAMES[:draw.randint(2, 4)]
            sort = SORTS[at % 3]
            first, other = (drawn_net(draw, taps, draw.choice((sort, "pipes")), 3, 8) for _ in range(2))
            one, two = drawn_sending(draw, first), drawn_sending(draw, other)
            told = sent_beside(first, one, other, two)
            both = beside(first, other)
            self.assertEqual(sending_faults(both, told), [])
            self.assertIs(is_sending(both, told), True)
            sums = {}
            for net, sending in ((first, one), (other, two)):
                for pair, amount in carried(net, sending).items():
                    sums[pair] = sums.get(pair, 0) + fraction(amount)
            self.assertEqual(carried(both, told), {pair: as_number(amount) for pair, amount in sums.items()})
            self.assertEqual(loads(both, told), loads(first, one) + loads(other, two))
            found += any(place.startswith("n") for *_, way, _ in told[len(one):] for _, place in way)
        self.assertGreater(found, 3)

    def test_errors_of_sent_beside(self):
        assert_errors(self, sent_beside, (PIPES, (WAY,), PIPES, (WAY,)), [
            (0, BadNet, NO_NETS), (1, BadSending, no_sendings()), (2, BadNet, NO_NETS), (3, BadSending, no_sendings())])
        assert_raises(self, sent_beside, (PIPES, (), (AB, ()), ()), BadNet)
        assert_raises(self, sent_beside, (PIPES, (), (AB, ()), (WAY,)), BadSending)
        assert_raises(self, sent_beside, (LEADS, (), HUBS, ()), BadNet)
        parts = (("pipe", "a", "b", 1),) * 100
        self.assertEqual(sent_beside((AB, parts), (), (AB, parts), ()), ())
        assert_raises(self, sent_beside, ((AB, parts), (), (AB, parts * 2), ()), TooMany, most=200)
        many = tuple(("pipe", "a", f"p{at}", 1) for at in range(20))
        assert_raises(self, sent_beside, ((AB, many), (), (AB, many), ()), TooMany, most=40)
        self.assertEqual(sent_beside((AB, many), (), (AB, many[:-2]), ()), ())

    def test_slowest_answers(self):
        started = time.process_time()
        there_and_back = ((3, "b"), (3, "a"))
        way = there_and_back * 99 + ((0, "x"), (1, "b"))
        sending = tuple((AB, way, as_number(Fraction(1, 10 ** 6 + at % 50))) for at in range(2000))
        self.assertIs(is_sending(PIPES, sending), True)
        self.assertEqual(len(shrunk(PIPES, sending, (1, 2))), 2000)
        net = (NAMES, tuple(("pipe", *sorted((f"p{at % 30}", f"p{(at * 7 + 1) % 31}")), 1) for at in range(200)
                            if at % 30 != (at * 7 + 1) % 31))
        lengths = tuple((at, 211) for at in range(1, len(net[1]) + 1))
        self.assertIsNone(distance(net, lengths, AB))
        self.assertLess(time.process_time() - started, 60)


if __name__ == "__main__":
    unittest.main()
