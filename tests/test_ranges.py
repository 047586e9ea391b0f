import itertools
import time
import unittest
from fractions import Fraction

from checking import (LONG, NAMES, NO_SORTS, NO_TAPS, SORTS, all_lots, as_number, assert_errors, assert_new, assert_raises,
                      drawn_net, error_of, fraction, keys_of, other_taps, slow_walls)
from judging import ABCD, C, claim_with, counted_worth, generator
from telling import (REACH, changed_facts, drawn_terms_of, hidden_net, keeping_faults, kept_fact, net_faults, reason_faults,
                     same_worths)
from test_claims import NO_TERMS_OF_CLAIMS
from test_facts import NEVER, NO_FACTS, NO_LISTS, beyond, few_lots_terms
from test_verdicts import NO_LOTS

from behindtaps.errors import BadFact, BadFacts, BadLot, BadSort, BadTaps, BadTerms, TooMany
from behindtaps.facts import follows, is_reason, measured
from behindtaps.ranges import enough, least_sum, range_of, ranges, settled

AB = ("a", "b")
ABC = ("a", "b", "c")
A = (("a",), 1)
EXAMPLE = measured(ABCD, {**{(tap,): 2 for tap in ABCD}, ("a", "b"): 2, ("a", "c"): 2})


def assert_least_sum(case, taps, facts, sort, terms, word=None, value=None):
    told = least_sum(taps, facts, sort, terms)
    case.assertIs(type(told), tuple)
    if word is not None:
        case.assertEqual(told[0], word, (taps, facts, sort, terms))
    if value is not None:
        case.assertEqual(told[1], value, (taps, facts, sort, terms))
    if told[0] == "clash":
        case.assertEqual(len(told), 2)
        case.assertEqual(reason_faults(taps, facts, sort, NEVER, told[1]), [])
    elif told[0] == "least":
        _, least, net, weights = told
        case.assertEqual(keeping_faults(net, taps, sort, facts), [], (taps, facts, sort, terms))
        case.assertEqual(as_number(counted_worth((taps, terms), net)), least)
        case.assertEqual(reason_faults(taps, facts, sort, (terms, least), weights), [], (taps, facts, sort, terms))
        case.assertIs(is_reason(taps, facts, sort, (terms, least), weights), True)
    else:
        case.assertEqual((told[0], len(told)), ("endless", 3))
        case.assertEqual(keeping_faults(told[1], taps, sort, facts), [])
        case.assertEqual(keeping_faults(told[2], taps, sort, [(one, 0) for one, _ in facts]), [])
        case.assertLess(counted_worth((taps, terms), told[2]), 0)
    return told[0]


def opened(terms, one, new):
    """The terms in which each lot that has one has new, too."""
    return tuple(sorted((tuple(sorted((*lot, new))) if one in lot else lot, weight) for lot, weight in terms))


def hidden_facts(draw, net, many):
    """Facts that the net keeps, some of them measured walls."""
    facts = []
    for _ in range(many):
        if draw.random() < 0.4:
            lot = draw.choice(all_lots(net[0]))
            facts += measured(net[0], {lot: as_number(counted_worth((net[0], ((lot, 1),)), net))})
        else:
            facts.append(kept_fact(draw, net))
    return facts


class LeastSumTest(unittest.TestCase):
    def test_known_ones(self):
        for sort in SORTS:
            for taps in (AB, ABC, NAMES):
                assert_least_sum(self, taps, [], sort, (), "least", 0)
                assert_least_sum(self, taps, [], sort, (A,), "least", 0)
                assert_least_sum(self, taps, [], sort, ((("a",), -1),), "endless")
                assert_least_sum(self, taps, [((A,), (5, 3))], sort, ((("a",), 2),), "least", (10, 3))
                assert_least_sum(self, taps, [(((("a",), -1),), (-5, 3))], sort, ((("a",), -2),), "least", (-10, 3))
                assert_least_sum(self, taps, [NEVER], sort, (A,), "clash")
                assert_least_sum(self, taps, [((A,), 2), (((("a",), -2),), -3)], sort, (), "clash")
            assert_least_sum(self, ABC, [], sort, ((("a",), 1), (("a", "b"), -1)), "endless")
        assert_least_sum(self, ABCD, [], "pipes", C[1], "least", 0)
        assert_least_sum(self, ABCD, [], "hubs", C[1], "endless")
        assert_least_sum(self, ABCD, [(((("a",), -1),), -3)], "hubs", C[1], "least", -3)
        assert_least_sum(self, ABCD, EXAMPLE, "pipes", ((("a", "d"), 1),), "least", 4)
        assert_least_sum(self, ABCD, EXAMPLE, "hubs", ((("a", "d"), 1),), "least", 2)
        self.assertEqual(least_sum(terms=(A,), sort="pipes", facts=[], taps=AB)[:2], ("least", 0))

    def test_drawn_sums_within_the_reach(self):
        draw = generator(91)
        words = {}
        for at in range(210):
            sort = SORTS[at % 3]
            net = hidden_net(draw, sort)
            facts = hidden_facts(draw, net, draw.randint(0, 3))
            if at % 7 == 0:
                terms, bound = kept_fact(draw, net, 1)
                facts.append((tuple((lot, as_number(-fraction(weight))) for lot, weight in terms),
                              as_number(-fraction(bound) + 1)))
            terms = drawn_terms_of(draw, net[0])
            word = assert_least_sum(self, net[0], facts, sort, terms)
            words[sort, word] = words.get((sort, word), 0) + 1
            told = least_sum(net[0], facts, sort, terms)
            again = least_sum(net[0], changed_facts(draw, net[0], sort, facts), sort, terms)
            self.assertEqual(again[0], word)
            if word == "least":
                self.assertEqual(again[1], told[1])
            opposites = changed_facts(draw, net[0], sort, [(terms, 0)])[0][0]
            if same_worths(net[0], sort, opposites, terms):
                self.assertEqual(least_sum(net[0], facts, sort, opposites)[0], word)
        self.assertEqual(len(words), 9, words)

    def test_drawn_sums_beyond_the_reach(self):
        draw = generator(92)
        words = {}
        for at in range(210):
            sort = SORTS[at % 3]
            taps, greater, lesser = beyond(draw, sort)
            net = drawn_net(draw, taps, sort, 1, 8, "whole")
            facts = []
            for _ in range(draw.randint(0, 5)):
                terms = few_lots_terms(draw, taps, sort, greater, lesser)
                facts.append((terms, as_number(counted_worth((taps, terms), net) - draw.choice((0, 0, 1)))))
            if at % 7 == 0:
                terms = few_lots_terms(draw, taps, sort, greater, [])
                facts.append((terms, 1))
            word = assert_least_sum(self, taps, facts, sort, few_lots_terms(draw, taps, sort, lesser, greater))
            words[sort, word] = words.get((sort, word), 0) + 1
        self.assertEqual(len(words), 9, words)

    def test_opened_taps(self):
        # What is told of melted taps has the same least sum when a tap is opened: lots with it have the new one, too.
        draw = generator(910)
        words = {}
        for at in range(240):
            sort = SORTS[at % 3]
            net = hidden_net(draw, sort, draw.randint(2, REACH[sort]))
            taps = net[0]
            keys = keys_of(taps, sort)
            greater = draw.sample(keys, min(len(keys), 2 if sort == "hubs" else 3))
            lesser = draw.sample(keys, min(len(keys), 3))
            facts = []
            for _ in range(draw.randint(1, 5)):
                terms = few_lots_terms(draw, taps, sort, greater, lesser)
                facts.append((terms, as_number(counted_worth((taps, terms), net) + draw.choice((0, 0, 0, -1, 1)))))
            terms = few_lots_terms(draw, taps, sort, lesser, greater)
            told = least_sum(taps, facts, sort, terms)
            one, wide = draw.choice(taps), taps
            while len(wide) <= REACH[sort]:
                new = f"{one}{len(wide)}"
                wide = tuple(sorted((*wide, new)))
                facts = [(opened(fact_terms, one, new), bound) for fact_terms, bound in facts]
                terms = opened(terms, one, new)
            value = told[1] if told[0] == "least" else None
            assert_least_sum(self, wide, facts, sort, terms, told[0], value)
            words[sort, told[0]] = words.get((sort, told[0]), 0) + 1
        self.assertEqual(len(words), 9, words)

    def test_forks_and_joins_of_opened_taps(self):
        # Nothing but a fork from a, or d, lets 1 run to b and 1 to c if just 1 runs from a and d, and none from b and c.
        facts = [(((("a", "d"), -1),), -1), (((("b",), -1),), 0), (((("c",), -1),), 0)]
        terms = ((("a", "b", "d"), -1), (("a", "c", "d"), -1))
        assert_least_sum(self, ABCD, facts, "leads", terms, "least", -2)
        # The same the other way round: a join to a, or d.
        facts = [(((("a", "b", "d"), -1),), 0), (((("a", "c", "d"), -1),), 0), (((("b", "c"), -1),), -1)]
        terms = ((("b",), -1), (("c",), -1))
        assert_least_sum(self, ABCD, facts, "leads", terms, "least", -2)

    def test_errors(self):
        no_terms = [terms for terms in NO_TERMS_OF_CLAIMS if terms != ()]
        assert_errors(self, least_sum, (ABC, [((A,), 1)], "leads", (A,)), [
            (0, BadTaps, NO_TAPS), (1, BadFacts, NO_LISTS), (2, BadSort, NO_SORTS), (3, BadTerms, no_terms)])
        for sort, most in (("pipes", 3), ("leads", 3), ("hubs", 2)):
            lots = keys_of(NAMES, sort)
            wide = tuple((lot, 1) for lot in lots[:most + 1])
            self.assertIsNone(error_of(least_sum, (NAMES, [], sort, wide[1:])))
            assert_raises(self, least_sum, (NAMES, [], sort, wide), TooMany, most=most)
            assert_raises(self, least_sum, (NAMES, [(((lots[4], -1),), -1)], sort, wide[1:]), TooMany, most=most)
            below = tuple((lot, -1) for lot in lots[:4])
            self.assertIsNone(error_of(least_sum, (NAMES, [], sort, below[1:])))
            assert_raises(self, least_sum, (NAMES, [], sort, below), TooMany, most=3)
            assert_raises(self, least_sum, (NAMES, [((A,), 0)], sort, tuple((lot, -1) for lot in lots[1:4])), TooMany, most=3)
            assert_raises(self, least_sum, (NAMES, [(wide, 0)], sort, wide), TooMany, most=most)
            near = NAMES[:REACH[sort]]
            many = tuple((lot, 1 if at % 2 else -1) for at, lot in enumerate(all_lots(near)))
            self.assertIsNone(error_of(least_sum, (near, [(many, -1)], sort, many)))


class RangesTest(unittest.TestCase):
    def test_the_example(self):
        self.assertEqual(range_of(ABCD, EXAMPLE, "pipes", ("a", "d")), (4, 4))
        self.assertEqual(range_of(ABCD, EXAMPLE, "hubs", ("a", "d")), (2, 4))
        self.assertEqual(settled(ABCD, EXAMPLE, "pipes")[("a", "d")], 4)
        self.assertEqual(list(settled(ABCD, EXAMPLE, "pipes")), keys_of(ABCD, "pipes"))
        self.assertNotIn(("a", "d"), settled(ABCD, EXAMPLE, "hubs"))
        self.assertEqual(len(settled(ABCD, EXAMPLE, "hubs")), 6)
        self.assertEqual(slow_walls((ABCD, (("hub", ABCD, 2),)), [("a", "d")]), {("a", "d"): 2})

    def test_small_ones(self):
        for sort in SORTS:
            for taps in (AB, ABC, NAMES):
                self.assertEqual(range_of(taps, [], sort, ("a",)), (0, None))
                self.assertEqual(range_of(taps, [NEVER], sort, ("a",)), None)
                self.assertEqual(range_of(taps, [((A,), (1, 3))], sort, ("a",)), ((1, 3), None))
                self.assertEqual(range_of(taps, [(((("a",), -1),), -LONG)], sort, ("a",)), (0, LONG))
                self.assertEqual(range_of(taps, measured(taps, {("a",): 7}), sort, ("a",)), (7, 7))
                self.assertIsNone(range_of(taps, measured(taps, {("a",): -1}), sort, ("a",)))
                rest = tuple(tap for tap in taps if tap != "a")
                self.assertEqual(range_of(taps, measured(taps, {("a",): 7}), sort, rest), (0, None) if sort == "leads" else (7, 7))
        self.assertEqual(ranges(AB, [], "leads"), {("a",): (0, None), ("b",): (0, None)})
        self.assertEqual(settled(AB, [], "leads"), {})
        for function in (ranges, settled):
            self.assertIsNone(function(sort="hubs", facts=[NEVER], taps=AB))
            assert_new(self, function, (AB, measured(AB, {("a",): 1}), "pipes"))
        self.assertEqual(range_of(lot=("b",), sort="pipes", facts=[((A,), 1)], taps=AB), (1, None))

    def assert_ranges(self, taps, facts, sort, net=None):
        """All ranges, their ends reached, nothing beyond them; walls of a hidden net within them."""
        told = ranges(taps, facts, sort)
        self.assertEqual(list(told), keys_of(taps, sort))
        walls = slow_walls(net, keys_of(taps, sort)) if net else None
        for lot, (low, high) in told.items():
            self.assertEqual(range_of(taps, facts, sort, lot), (low, high))
            if sort != "leads":
                self.assertEqual(range_of(taps, facts, sort, other_taps(taps, lot)), (low, high))
            if walls:
                self.assertLessEqual(fraction(low), fraction(walls[lot]))
                self.assertTrue(high is None or fraction(walls[lot]) <= fraction(high))
            assert_least_sum(self, taps, facts, sort, ((lot, 1),), "least", low)
            below = [*facts, (((lot, -1),), as_number(Fraction(1, LONG) - fraction(low)))]
            self.assertEqual(follows(taps, below, sort, ((), 0))[0], "clash")
            if high is None:
                assert_least_sum(self, taps, facts, sort, ((lot, -1),), "endless")
            else:
                assert_least_sum(self, taps, facts, sort, ((lot, -1),), "least", as_number(-fraction(high)))
                above = [*facts, (((lot, 1),), as_number(Fraction(1, LONG) + fraction(high)))]
                self.assertEqual(follows(taps, above, sort, ((), 0))[0], "clash")
        self.assertEqual(list(settled(taps, facts, sort).items()),
                         [(lot, low) for lot, (low, high) in told.items() if low == high])
        return told

    def test_drawn_hidden_nets(self):
        draw = generator(93)
        settled_lots = 0
        for at in range(36):
            sort = SORTS[at % 3]
            net = hidden_net(draw, sort, draw.randint(2, min(4, REACH[sort])))
            facts = hidden_facts(draw, net, draw.randint(0, 4))
            told = self.assert_ranges(net[0], facts, sort, net)
            measured_lots = [lot for lot in keys_of(net[0], sort) if (((lot, 1),), told[lot][0]) in facts
                             and (((lot, -1),), as_number(-fraction(told[lot][0]))) in facts]
            for lot in measured_lots:
                self.assertEqual(told[lot][0], told[lot][1])
            settled_lots += sum(low == high for low, high in told.values()) - len(measured_lots)
        self.assertGreater(settled_lots, 5)

    def test_drawn_hidden_nets_with_five_taps(self):
        draw = generator(94)
        net = drawn_net(draw, NAMES[:5], "pipes", 2, 8, "whole")
        self.assert_ranges(net[0], hidden_facts(draw, net, 5), "pipes", net)

    def test_beyond_the_reach(self):
        draw = generator(95)
        for at in range(9):
            sort = SORTS[at % 3]
            taps = NAMES[:draw.randint(REACH[sort] + 1, 5 if sort == "leads" else 6)]
            net = drawn_net(draw, taps, sort, 1, 8, "whole")
            # Measured lots count for both sides; one greater lot more is that of the range.
            lots = draw.sample(keys_of(taps, sort), 1 if sort == "hubs" else 2)
            facts = measured(taps, {lot: as_number(counted_worth((taps, ((lot, 1),)), net)) for lot in lots})
            self.assert_ranges(taps, facts, sort, net)

    def test_facts_of_the_document(self):
        draw = generator(96)
        for at in range(24):
            sort = SORTS[at % 3]
            net = hidden_net(draw, sort, draw.randint(2, 3))
            taps = net[0]
            facts = hidden_facts(draw, net, draw.randint(1, 3))
            told = ranges(taps, facts, sort)
            self.assertEqual(ranges(taps, changed_facts(draw, taps, sort, facts), sort), told)
            names = dict(zip(taps, ("k", "l5", "m")))
            renamed = [(tuple((tuple(names[tap] for tap in lot), weight) for lot, weight in terms), bound)
                       for terms, bound in facts]
            self.assertEqual(list(ranges(tuple(names[tap] for tap in taps), renamed, sort).values()), list(told.values()))
            more = ranges(taps, [*facts, kept_fact(draw, net)], sort)
            self.assert_within(more, told)
            for less in ("pipes",) if sort != "pipes" else ():
                fewer = ranges(taps, facts, less)
                wide = {lot: range_of(taps, facts, sort, lot) for lot in keys_of(taps, less)}
                if fewer is not None:
                    self.assert_within(fewer, wide)
                    self.assertTrue(set(settled(taps, facts, sort)) & set(wide) <= set(settled(taps, facts, less)))
            clash = [*facts, NEVER]
            self.assertIsNone(ranges(taps, clash, sort))

    def assert_within(self, told, wide):
        for lot, (low, high) in told.items():
            self.assertGreaterEqual(fraction(low), fraction(wide[lot][0]))
            if wide[lot][1] is not None:
                self.assertLessEqual(fraction(high), fraction(wide[lot][1]))

    def test_errors(self):
        right = (ABC, [((A,), 1)], "leads")
        wrong = [(0, BadTaps, NO_TAPS), (1, BadFacts, NO_LISTS), (2, BadSort, NO_SORTS)]
        assert_errors(self, range_of, (*right, ("a",)), [*wrong, (3, BadLot, [lot for lot in NO_LOTS if lot != ("e",)])])
        for function in (ranges, settled):
            assert_errors(self, function, right, wrong)

    def test_limits(self):
        for sort, most in (("pipes", 3), ("leads", 3), ("hubs", 2)):
            taps = NAMES
            lots = keys_of(taps, sort)
            # As many greater lots as may be: the range of any further one has one more.
            facts = [(((lot, -1),), -5) for lot in lots[:most]]
            self.assertIsNone(error_of(range_of, (taps, facts, sort, lots[0])))
            assert_raises(self, range_of, (taps, facts, sort, lots[most]), TooMany, most=most)
            for function in (ranges, settled):
                assert_raises(self, function, (taps, facts, sort), TooMany, most=most)
                self.assertIsNone(error_of(function, (taps[:REACH[sort]], [], sort)))
            # As many lesser lots as may be: the second end has one more.
            facts = [(((lot, 1),), 0) for lot in lots[:3]]
            self.assertIsNone(error_of(range_of, (taps, facts, sort, lots[2])))
            assert_raises(self, range_of, (taps, facts, sort, lots[3]), TooMany, most=3)
            assert_raises(self, ranges, (taps, facts, sort), TooMany, most=3)
            # Facts that clash do not hide it.
            assert_raises(self, range_of, (taps, [*facts, NEVER], sort, lots[3]), TooMany, most=3)
            # Too many lesser lots for the first end, too many greater ones behind: lots in order, first ends first.
            facts = [(tuple((lot, 1) for lot in lots[:4]), 0)]
            assert_raises(self, range_of, (taps, facts, sort, lots[0]), TooMany, most=3)
            facts = [(tuple((lot, 1) for lot in lots[:3]), 0), (tuple((lot, -1) for lot in lots[1:most + 1]), -9)]
            assert_raises(self, ranges, (taps, facts, sort), TooMany, most=most)

    def test_slowest_answers(self):
        started = time.process_time()
        draw = generator(97)
        for sort in SORTS:
            net = drawn_net(draw, NAMES[:REACH[sort]], sort, 2, 9, "fraction")
            facts = [kept_fact(draw, net, 4) for _ in range(30)]
            told = ranges(net[0], facts, sort)
            walls = slow_walls(net, keys_of(net[0], sort))
            for lot, (low, high) in told.items():
                self.assertLessEqual(fraction(low), fraction(walls[lot]))
                self.assertTrue(high is None or fraction(walls[lot]) <= fraction(high))
            net = drawn_net(draw, NAMES, sort, 1, 9, "fraction")
            lots = draw.sample(keys_of(NAMES, sort), 1 if sort == "hubs" else 2)
            told = ranges(NAMES, measured(NAMES, {lot: slow_walls(net, [lot])[lot] for lot in lots}), sort)
            self.assertEqual(len(told), 62 if sort == "leads" else 31)
            self.assertTrue(all(told[lot][0] == told[lot][1] for lot in lots))
        self.assertLess(time.process_time() - started, 60)


def slow_enough(taps, facts, sort, fact):
    """The least lots of facts, by a walk over all of them."""
    found = []
    for many in range(len(facts) + 1):
        for lot in itertools.combinations(range(len(facts)), many):
            if follows(taps, [facts[at] for at in lot], sort, fact)[0] != "breaks":
                found.append(lot)
    return sorted(lot for lot in found if not any(set(other) < set(lot) for other in found))


class EnoughTest(unittest.TestCase):
    def test_known_ones(self):
        twice = [((A,), 2), ((A,), 3), ((), 0), (((("a",), 2),), 8)]
        for sort in SORTS:
            for taps in (ABC, NAMES):
                self.assertEqual(enough(taps, twice, sort, ((A,), 2)), [(0,), (1,), (3,)])
                self.assertEqual(enough(taps, twice, sort, ((A,), 4)), [(3,)])
                self.assertEqual(enough(taps, twice, sort, ((A,), 5)), [])
                self.assertEqual(enough(taps, twice, sort, ((A,), 0)), [()])
                self.assertEqual(enough(taps, [], sort, NEVER), [])
                self.assertEqual(enough(taps, [NEVER, ((A,), 1)], sort, ((A,), 1)), [(0,), (1,)])
                clash = [((A,), 2), (((("a",), -1),), -1), ((A,), 3)]
                self.assertEqual(enough(taps, clash, sort, NEVER), [(0, 1), (1, 2)])
        self.assertEqual(enough(fact=((), 0), sort="pipes", facts=(), taps=AB), [()])

    def test_the_order_of_the_lots(self):
        # (0, 3) stands before (1,).
        facts = [((A,), 1), ((A, (("b",), 1)), 5), ((), 0), (((("b",), 1),), 2)]
        self.assertEqual(enough(ABC, facts, "leads", ((A, (("b",), 1)), 3)), [(0, 3), (1,)])

    def test_drawn_facts(self):
        draw = generator(98)
        sizes = {}
        for at in range(45):
            sort = SORTS[at % 3]
            if at % 2:
                taps, greater, lesser = beyond(draw, sort)
                net = drawn_net(draw, taps, sort, 1, 7, "whole")
                facts = []
                for _ in range(draw.randint(0, 4)):
                    terms = few_lots_terms(draw, taps, sort, greater, lesser)
                    facts.append((terms, as_number(counted_worth((taps, terms), net) - draw.choice((0, 0, 1)))))
                terms = few_lots_terms(draw, taps, sort, lesser, greater)
                fact = (terms, as_number(counted_worth((taps, terms), net) - draw.choice((0, 2, 5))))
            else:
                net = hidden_net(draw, sort)
                taps = net[0]
                facts = [kept_fact(draw, net, 2) for _ in range(draw.randint(1, 3))]
                one, other = draw.choice(facts), draw.choice(facts)
                weights = {}
                for lot, weight in (*one[0], *other[0]):
                    weights[lot] = weights.get(lot, 0) + fraction(weight)
                fact = (claim_with(taps, weights)[1], as_number(fraction(one[1]) + fraction(other[1])))
                facts = changed_facts(draw, taps, sort, facts)
            told = enough(taps, facts, sort, fact)
            self.assertEqual(told, slow_enough(taps, facts, sort, fact))
            sizes[len(told)] = sizes.get(len(told), 0) + 1
            order = list(range(len(facts)))
            draw.shuffle(order)
            again = enough(taps, [facts[at] for at in order], sort, fact)
            self.assertEqual(sorted(tuple(sorted(order[at] for at in lot)) for lot in again), told)
        self.assertGreaterEqual(len(sizes), 3)

    def test_errors(self):
        right = (ABC, [((A,), 1)], "leads", ((), 0))
        assert_errors(self, enough, right, [(0, BadTaps, NO_TAPS), (1, BadFacts, (*NO_LISTS, [((), 0)] * 7)),
                                            (2, BadSort, NO_SORTS), (3, BadFact, NO_FACTS)])
        self.assertEqual(enough(ABC, [((), 0)] * 6, "leads", ((), 0)), [()])
        assert_new(self, enough, right)
        for sort, most in (("pipes", 3), ("leads", 3), ("hubs", 2)):
            lots = keys_of(NAMES, sort)
            # Each fact alone would do, but all the facts are spoken of.
            facts = [(((lot, -1),), -5) for lot in lots[:most + 1]]
            self.assertEqual(enough(NAMES, facts[1:], sort, ((), 0)), [()])
            assert_raises(self, enough, (NAMES, facts, sort, ((), 0)), TooMany, most=most)
            assert_raises(self, enough, (NAMES, [(((lot, 1),), 0) for lot in lots[:4]], sort, ((), 0)), TooMany, most=3)
            assert_raises(self, enough, (NAMES, facts * 2, sort, ((), 0)), BadFacts if most == 3 else TooMany)

    def test_slowest_answers(self):
        started = time.process_time()
        draw = generator(99)
        for sort in SORTS:
            for _ in range(2):
                net = drawn_net(draw, NAMES[:REACH[sort]], sort, 2, 9, "fraction")
                facts = [kept_fact(draw, net, 5) for _ in range(6)]
                fact = kept_fact(draw, net, 5)
                self.assertEqual(enough(net[0], facts, sort, fact), slow_enough(net[0], facts, sort, fact))
                self.assertEqual(net_faults(net, net[0], sort), [])
        self.assertLess(time.process_time() - started, 60)


if __name__ == "__main__":
    unittest.main()
