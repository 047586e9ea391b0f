import time
import unittest
from fractions import Fraction

from checking import (LONG, NAMES, NO_NUMBERS, NO_SORTS, NO_TAPS, SORTS, all_lots, as_number, assert_errors, assert_new,
                      assert_raises, drawn_net, error_of, fraction, keys_of)
from judging import ABCD, C, counted_worth, generator
from telling import (REACH, changed_facts, drawn_terms_of, hidden_net, kept, kept_fact, keeping_faults, net_faults,
                     reason_faults, rest_weights, unlike_lots)
from test_claims import NO_TERMS_OF_CLAIMS
from test_nets import NO_NETS

from behindtaps.errors import (BadFact, BadFacts, BadNet, BadSort, BadTaps, BadWalls, BadWeights, TooMany)
from behindtaps.facts import follows, is_fact, is_reason, keeps, measured, rest
from behindtaps.leastsums import lowest_along_cube, lowest_by_kinds

AB = ("a", "b")
ABC = ("a", "b", "c")
A = (("a",), 1)
NEVER = ((), 1)
NO_FACTS = (None, True, 1, "fact", (), ((),), [(), 0], ((), 0, 0), ((), None), ((), True), ((), (2, 4)), ((), "1"), ([], 0),
            (None, 0), ({}, 0), {}) + tuple((terms, 0) for terms in NO_TERMS_OF_CLAIMS)
NO_LISTS = (None, True, 1, "facts", {}, [None], [NEVER, None], [((), 1)] * 31, {NEVER: 1}, ((), 1)) + tuple(
    [fact] for fact in NO_FACTS)


def assert_follows(case, taps, facts, sort, fact, word=None):
    """The answer is as the document's words ask, by the test's own reckoning."""
    told = follows(taps, facts, sort, fact)
    case.assertIs(type(told), tuple)
    if word is not None:
        case.assertEqual(told[0], word, (taps, facts, sort, fact))
    if told[0] == "clash":
        case.assertEqual(len(told), 2)
        case.assertEqual(reason_faults(taps, facts, sort, NEVER, told[1]), [], (taps, facts, sort))
        case.assertIs(is_reason(taps, facts, sort, NEVER, told[1]), True)
    elif told[0] == "follows":
        case.assertEqual(len(told), 3)
        case.assertEqual(reason_faults(taps, facts, sort, fact, told[1]), [], (taps, facts, sort, fact))
        case.assertEqual(keeping_faults(told[2], taps, sort, [*facts, fact]), [], (taps, facts, sort, fact))
        case.assertIs(is_reason(taps, facts, sort, fact, told[1]), True)
    else:
        case.assertEqual((told[0], len(told)), ("breaks", 2))
        case.assertEqual(keeping_faults(told[1], taps, sort, facts), [], (taps, facts, sort, fact))
        case.assertFalse(kept(told[1], fact))
    return told[0]


def beyond(draw, sort):
    """Taps beyond the reach of the sort, and a function that draws facts of few unlike lots."""
    taps = NAMES[:draw.randint(REACH[sort] + 1, 6)]
    keys = keys_of(taps, sort)
    greater = draw.sample(keys, 2 if sort == "hubs" else 3)
    lesser = draw.sample(keys, 3)
    if draw.random() < 0.5:
        lesser[:len(greater)] = greater
    return taps, greater, lesser


def few_lots_terms(draw, taps, sort, below, above):
    """Terms with weights below 0 at some of the first lots, and above 0 at some of the others."""
    weights = {}
    for lots, side in ((below, -1), (above, 1)):
        for lot in draw.sample(lots, draw.randint(0, min(2, len(lots)))):
            weights[lot] = side * draw.choice((1, 1, 2, (1, 2)) if side > 0 else (1, 1, 2))
    return tuple((lot, weights[lot]) for lot in sorted(weights))


class FactTest(unittest.TestCase):
    def test_is_fact(self):
        for fact in (NEVER, ((), 0), ((A,), (-1, 2)), ((A, (("b", "c"), (-1, LONG))), LONG)):
            self.assertIs(is_fact(ABC, fact), True, fact)
        for fact in NO_FACTS:
            self.assertIs(is_fact(ABC, fact), False, fact)
        for number in NO_NUMBERS:
            self.assertIs(is_fact(ABC, ((A,), number)), False)
        assert_errors(self, is_fact, (AB, None), [(0, BadTaps, NO_TAPS)])
        self.assertIs(is_fact(value=((), 0), taps=AB), True)

    def test_measured(self):
        told = measured(ABC, {("b", "c"): (1, 2), ("a",): 3})
        self.assertEqual(told, [((A,), 3), (((("a",), -1),), -3), (((("b", "c"), 1),), (1, 2)), (((("b", "c"), -1),), (-1, 2))])
        self.assertEqual(measured(AB, {}), [])
        self.assertEqual(measured(walls={("a",): -1}, taps=AB), [((A,), -1), (((("a",), -1),), 1)])
        lots = all_lots(NAMES)
        self.assertEqual(len(measured(NAMES, dict.fromkeys(lots[:15], 0))), 30)
        wrong = (None, True, [], (), 1, dict.fromkeys(lots[:16], 0), {("z",): 1}, {(): 1}, {NAMES: 1}, {"a": 1}, {1: 1},
                 *({("a",): number} for number in NO_NUMBERS), {("a",): 1, ("b", "a"): 1}, [(("a",), 1)])
        assert_errors(self, measured, (NAMES, {("a",): 1}), [(0, BadTaps, NO_TAPS), (1, BadWalls, wrong)])
        assert_new(self, measured, (ABC, {("a",): 1}))

    def test_keeps(self):
        draw = generator(81)
        seen = {True: 0, False: 0}
        for at in range(120):
            net = drawn_net(draw, NAMES[:draw.randint(2, 5)], SORTS[at % 3], 2)
            facts = [kept_fact(draw, net) for _ in range(draw.randint(0, 3))]
            self.assertIs(keeps(net, facts), True)
            if facts:
                terms, bound = facts[0]
                for more in (1, Fraction(1, LONG)):
                    facts[0] = (terms, as_number(fraction(bound) + more))
                    right = kept(net, facts[0])
                    self.assertIs(keeps(net, tuple(facts)), right)
                    seen[right] += 1
        self.assertGreater(min(seen.values()), 20)
        self.assertIs(keeps((AB, ()), []), True)
        self.assertIs(keeps((AB, ()), [NEVER]), False)
        self.assertIs(keeps(facts=[((), 0)] * 30, net=(AB, ())), True)
        assert_errors(self, keeps, ((ABC, ()), [((A,), 0)]), [(0, BadNet, NO_NETS), (1, BadFacts, NO_LISTS)])
        assert_raises(self, keeps, ((AB, ()), [(((("c",), 1),), 0)]), BadFacts)

    def test_rest(self):
        facts = [((A, (("b", "c"), 2)), 5), (((("a",), -1),), (1, 2))]
        self.assertEqual(rest(ABC, facts, (1, 0), ((A,), 7)), (((("b", "c"), -2),), 2))
        self.assertEqual(rest(ABC, facts, ((1, 2), 3), ((), 0)), (((("a",), (5, 2)), (("b", "c"), -1)), -4))
        self.assertEqual(rest(fact=NEVER, weights=(), facts=[], taps=ABC), NEVER)
        draw = generator(82)
        for at in range(100):
            taps = NAMES[:draw.randint(2, 5)]
            facts = [(drawn_terms_of(draw, taps), draw.randint(-3, 3)) for _ in range(draw.randint(0, 4))]
            fact = (drawn_terms_of(draw, taps), (1, 3))
            weights = tuple(draw.choice((0, 1, (1, 3), LONG)) for _ in facts)
            terms, bound = rest(taps, facts, weights, fact)
            told, expected = rest_weights(facts, weights, fact)
            self.assertEqual((dict(terms), bound), ({lot: as_number(told[lot]) for lot in told}, as_number(expected)))
            self.assertEqual(list(terms), sorted(terms))
        no_weights = (None, True, 1, [], [1, 1], (), (1,), (1, 1, 1), (1, -1), (1, (-1, 2)), (1, True), (1, None), "11", {})
        right = (ABC, [((A,), 1), NEVER], (1, 2), ((), 0))
        assert_errors(self, rest, right, [(0, BadTaps, NO_TAPS), (1, BadFacts, NO_LISTS), (2, BadWeights, no_weights),
                                          (3, BadFact, NO_FACTS)])


class ReasonTest(unittest.TestCase):
    def test_the_example(self):
        facts = measured(ABCD, {**{(tap,): 2 for tap in ABCD}, ("a", "b"): 2, ("a", "c"): 2})
        place = {fact: at for at, fact in enumerate(facts)}

        def weights(*terms):
            told = [0] * len(facts)
            for lot, side in terms:
                told[place[(((lot, side),), 2 * side)]] = 1
            return tuple(told)
        not_below = (((("a", "d"), 1),), 4)
        not_above = (((("a", "d"), -1),), -4)
        reason = weights((("a", "b"), -1), (("a", "c"), -1), *[((tap,), 1) for tap in ABCD])
        self.assertIs(is_reason(ABCD, facts, "pipes", not_below, reason), True)
        self.assertIs(is_reason(ABCD, facts, "hubs", not_below, reason), False)
        for sort in ("pipes", "hubs"):
            self.assertIs(is_reason(ABCD, facts, sort, not_above, weights((("a",), -1), (("d",), -1))), True)
            self.assertIs(is_reason(ABCD, facts, sort, not_above, weights((("a",), -1), (("b",), -1))), False)
        self.assertIs(is_reason(ABCD, facts, "pipes", (not_below[0], 5), reason), False)
        self.assertIs(is_reason(ABCD, facts, "pipes", (not_below[0], 3), reason), True)

    def test_drawn_values(self):
        draw = generator(83)
        seen = {True: 0, False: 0}
        for at in range(200):
            sort = SORTS[at % 3]
            net = hidden_net(draw, sort)
            taps = net[0]
            facts = [kept_fact(draw, net) for _ in range(draw.randint(1, 4))]
            fact = kept_fact(draw, net)
            told = follows(taps, facts, sort, fact)
            weights = told[1] if told[0] == "follows" else tuple(draw.choice((0, 1, (1, 2))) for _ in facts)
            changed = list(weights)
            changed[draw.randrange(len(changed))] = draw.choice((0, 1, (1, 3), LONG))
            for value in (weights, tuple(changed)):
                right = reason_faults(taps, facts, sort, fact, value) == []
                self.assertIs(is_reason(taps, facts, sort, fact, value), right)
                seen[right] += 1
            for value in (list(weights), weights + (0,), weights[1:], None, True, 1, "", {}, (None,) * len(weights),
                          (True,) * len(weights), (-1,) + weights[1:]):
                self.assertIs(is_reason(taps, facts, sort, fact, value), False)
        self.assertGreater(min(seen.values()), 50, seen)
        self.assertIs(is_reason(ABC, [], "pipes", ((), 0), ()), True)
        self.assertIs(is_reason(value=(2,), fact=NEVER, sort="pipes", facts=[((), (1, 2))], taps=ABC), True)
        self.assertIs(is_reason(ABC, [((), (1, 2))], "pipes", NEVER, (1,)), False)

    def test_errors(self):
        right = (ABC, [((A,), 1)], "leads", ((), 0), None)
        assert_errors(self, is_reason, right, [(0, BadTaps, NO_TAPS), (1, BadFacts, NO_LISTS), (2, BadSort, NO_SORTS),
                                               (3, BadFact, NO_FACTS)])

    def test_too_many_for_the_verdict_of_the_rest(self):
        for sort, most in (("pipes", 4), ("leads", 4), ("hubs", 3)):
            lots = [lot for lot in all_lots(NAMES) if len(lot) == 2]
            wide = tuple((lot, 1) for lot in lots[:most + 1])
            assert_raises(self, is_reason, (NAMES, [], sort, (wide, 0), ()), TooMany, most=most)
            self.assertIs(is_reason(NAMES, [], sort, (wide[1:], 0), ()), True)
            # Not if the bound is above 0, nor if it is no tuple of weights, nor within the reach.
            self.assertIs(is_reason(NAMES, [], sort, (wide, 1), ()), False)
            for value in (None, (1,), [], ((),)):
                self.assertIs(is_reason(NAMES, [], sort, (wide, 0), value), False)
            near = NAMES[:REACH[sort]]
            self.assertIs(is_reason(near, [], sort, (tuple((lot, 1) for lot in all_lots(near)), 0), ()), True)
            # What is taken off counts no more.
            self.assertIs(is_reason(NAMES, [(wide[:1], 0)], sort, (wide, 0), (1,)), True)


class FollowsTest(unittest.TestCase):
    def test_known_ones(self):
        for sort in SORTS:
            for taps in (AB, ABC, NAMES):
                assert_follows(self, taps, [], sort, ((), 0), "follows")
                assert_follows(self, taps, [], sort, NEVER, "breaks")
                assert_follows(self, taps, [NEVER], sort, ((), 0), "clash")
                assert_follows(self, taps, [((), 0)], sort, ((), (-1, 3)), "follows")
                assert_follows(self, taps, [((A,), 2)], sort, ((A,), 2), "follows")
                assert_follows(self, taps, [((A,), 2)], sort, ((A,), (LONG * 2 + 1, LONG)), "breaks")
                assert_follows(self, taps, [((A,), 2), (((("a",), -1),), -2)], sort, ((A,), 2), "follows")
                assert_follows(self, taps, [((A,), 2), (((("a",), -1),), -1)], sort, ((A,), 2), "clash")
                assert_follows(self, taps, [(((("a",), -1),), (1, LONG))], sort, NEVER, "clash")
                assert_follows(self, taps, [], sort, (((("a",), -1),), 0), "breaks")
                assert_follows(self, taps, [], sort, (((("a",), -1),), -LONG), "breaks")
                # The opposite of a lot has its wall, but for leads.
                rest_lot = (tuple(tap for tap in taps if tap != "a"), 1)
                assert_follows(self, taps, [((A,), 2)], sort, ((rest_lot,), 2), "breaks" if sort == "leads" else "follows")
        assert_follows(self, ABCD, [], "pipes", (C[1], 0), "follows")
        assert_follows(self, ABCD, [], "hubs", (C[1], 0), "breaks")

    def test_drawn_facts_within_the_reach(self):
        draw = generator(84)
        words = {}
        for at in range(240):
            sort = SORTS[at % 3]
            net = hidden_net(draw, sort)
            facts = [kept_fact(draw, net) for _ in range(draw.randint(0, 5))]
            if draw.random() < 0.3:
                terms, bound = kept_fact(draw, net, 1)
                facts.append((tuple((lot, as_number(-fraction(weight))) for lot, weight in terms),
                              as_number(-fraction(bound) + draw.choice((0, 1, Fraction(1, 5))))))
            draw.shuffle(facts)
            fact = kept_fact(draw, net) if draw.random() < 0.7 else (drawn_terms_of(draw, net[0]), draw.randint(-3, 3))
            word = assert_follows(self, net[0], facts, sort, fact)
            words[sort, word] = words.get((sort, word), 0) + 1
            changed = changed_facts(draw, net[0], sort, facts)
            assert_follows(self, net[0], changed, sort, fact, word)
        self.assertEqual(len(words), 9, words)

    def test_drawn_facts_beyond_the_reach(self):
        draw = generator(85)
        words = {}
        for at in range(270):
            sort = SORTS[at % 3]
            taps, greater, lesser = beyond(draw, sort)
            net = drawn_net(draw, taps, sort, 1, 8, "whole")
            facts = []
            for _ in range(draw.randint(0, 5)):
                terms = few_lots_terms(draw, taps, sort, greater, lesser)
                slack = draw.choice((0, 0, 0, 1, -4 if at % 4 == 0 else 0))
                facts.append((terms, as_number(counted_worth((taps, terms), net) - slack)))
            if at % 4 == 0 and lesser[0] == greater[0]:
                told = as_number(counted_worth((taps, (((lesser[0], 1)),)), net))
                facts += [(((lesser[0], 1),), told), (((lesser[0], -1),), as_number(Fraction(1, LONG) - fraction(told)))]
            terms = few_lots_terms(draw, taps, sort, lesser, greater)
            bound = counted_worth((taps, terms), net) - draw.choice((0, 1, 3, 6))
            fact = (terms, as_number(bound))
            word = assert_follows(self, taps, facts, sort, fact)
            words[sort, word] = words.get((sort, word), 0) + 1
            changed = changed_facts(draw, taps, sort, facts)
            assert_follows(self, taps, changed, sort, fact, word)
        self.assertEqual(len(words), 9, words)
        self.assertGreater(min(words.values()), 5, words)

    def test_what_holds_just_so_beyond_the_reach(self):
        # The least bound that does not follow is found from the other side: a little more breaks.
        draw = generator(86)
        found = 0
        for at in range(60):
            sort = SORTS[at % 3]
            taps, greater, lesser = beyond(draw, sort)
            net = drawn_net(draw, taps, sort, 1, 9, "whole")
            facts = []
            for _ in range(4):
                terms = few_lots_terms(draw, taps, sort, greater, lesser)
                facts.append((terms, as_number(counted_worth((taps, terms), net))))
            terms = few_lots_terms(draw, taps, sort, lesser, greater)
            low, high = -40, 40
            if follows(taps, facts, sort, (terms, low))[0] != "follows":
                continue
            while high - low > 1:
                middle = (low + high) // 2
                if follows(taps, facts, sort, (terms, middle))[0] == "follows":
                    low = middle
                else:
                    high = middle
            assert_follows(self, taps, facts, sort, (terms, low), "follows")
            assert_follows(self, taps, facts, sort, (terms, high), "breaks")
            found += 1
        self.assertGreater(found, 15)

    def test_the_two_ways_are_one_within_the_reach(self):
        draw = generator(87)
        words = {}
        for at in range(150):
            sort = SORTS[at % 3]
            net = hidden_net(draw, sort)
            taps = net[0]
            keys = keys_of(taps, sort)
            greater = draw.sample(keys, min(len(keys), 2 if sort == "hubs" else 3))
            lesser = draw.sample(keys, min(len(keys), 3))
            facts = []
            for _ in range(draw.randint(0, 5)):
                terms = few_lots_terms(draw, taps, sort, greater, lesser)
                facts.append((terms, as_number(counted_worth((taps, terms), net) - draw.choice((0, 0, 1, -1)))))
            terms = few_lots_terms(draw, taps, sort, lesser, greater)
            one = lowest_by_kinds(taps, facts, sort, terms)
            other = lowest_along_cube(taps, facts, sort, terms)
            self.assertEqual(one[0], other[0])
            words[one[0]] = words.get(one[0], 0) + 1
            if one[0] == "least":
                self.assertEqual(one[1], other[1])
        self.assertEqual(len(words), 3, words)

    def test_long_numbers(self):
        draw = generator(88)
        for at in range(18):
            sort = SORTS[at % 3]
            net = drawn_net(draw, NAMES[:draw.choice((REACH[sort], REACH[sort] + 1))], sort, 1, 6, "long")
            lots = draw.sample(keys_of(net[0], sort), 2)
            facts = [(((lot, 1),), as_number(counted_worth((net[0], ((lot, 1),)), net))) for lot in lots]
            terms = ((lots[0], (LONG, LONG + 1)),)
            bound = counted_worth((net[0], terms), net)
            assert_follows(self, net[0], facts, sort, (terms, as_number(bound)), "follows")
            assert_follows(self, net[0], facts, sort, (terms, as_number(bound + Fraction(1, LONG))), "breaks")


class LimitsTest(unittest.TestCase):
    def test_errors(self):
        right = (ABC, [((A,), 1)], "leads", ((), 0))
        assert_errors(self, follows, right, [(0, BadTaps, NO_TAPS), (1, BadFacts, NO_LISTS), (2, BadSort, NO_SORTS),
                                             (3, BadFact, NO_FACTS)])
        self.assertEqual(follows(fact=((), 0), sort="hubs", facts=[], taps=AB)[:2], ("follows", ()))
        self.assertEqual(follows(AB, [((), 0)] * 30, "hubs", ((), 0))[0], "follows")

    def test_no_limit_within_the_reach(self):
        for sort in SORTS:
            taps = NAMES[:REACH[sort]]
            facts = [(((lot, side),), -9) for lot in all_lots(taps) for side in (1, -1)][:30]
            fact = (tuple((lot, -1 if at % 2 else 1) for at, lot in enumerate(all_lots(taps))), -LONG)
            assert_follows(self, taps, facts, sort, fact)

    def test_limits_beyond_the_reach(self):
        for sort, most in (("pipes", 3), ("leads", 3), ("hubs", 2)):
            for taps in (NAMES[:many] for many in range(REACH[sort] + 1, 7)):
                lots = keys_of(taps, sort)
                for inside in range(most + 1):
                    # Some of the greater lots are those of the fact, the others those of the facts.
                    own = tuple((lot, 1) for lot in lots[:inside])
                    facts = [(((lot, -1),), -LONG) for lot in lots[inside:most]]
                    self.assertIsNone(error_of(follows, (taps, facts, sort, (own, 0))))
                    more = facts + [(((lots[most], -1),), -LONG)]
                    assert_raises(self, follows, (taps, more, sort, (own, 0)), TooMany, most=most)
                    wide = tuple(sorted((*own, (lots[most], 1))))
                    assert_raises(self, follows, (taps, facts, sort, (wide, 0)), TooMany, most=most)
                for inside in range(4):
                    own = tuple((lot, -1) for lot in lots[:inside])
                    facts = [(((lot, 1),), 0) for lot in lots[inside:3]]
                    self.assertIsNone(error_of(follows, (taps, facts, sort, (own, 0))))
                    more = facts + [(((lots[3], 1),), 0)]
                    assert_raises(self, follows, (taps, more, sort, (own, 0)), TooMany, most=3)
                    # Greater ones come first.
                    wide = more + [(tuple((lot, -1) for lot in lots[:most + 1]), -LONG)]
                    assert_raises(self, follows, (taps, wide, sort, (own, 0)), TooMany, most=most)

    def test_which_lots_are_unlike(self):
        taps = NAMES
        lots = [("a",), ("b",), ("c",)]
        opposites = [tuple(tap for tap in taps if tap not in lot) for lot in lots]
        facts = [(((lot, -1),), -3) for lot in lots + opposites]
        self.assertEqual(len(unlike_lots(taps, "pipes", lots + opposites)), 3)
        assert_follows(self, taps, facts, "pipes", ((), 0), "follows")
        assert_raises(self, follows, (taps, facts, "leads", ((), 0)), TooMany, most=3)
        assert_raises(self, follows, (taps, facts, "hubs", ((), 0)), TooMany, most=2)
        # Told as they stand: weights that would come to 0 count, and a lot may count for both.
        facts = [((A, (opposites[0], -1)), 0), (((opposites[1], -1), (("b",), 1)), 0), (((("c",), -1),), -1)]
        assert_follows(self, taps, facts, "pipes", ((), 0), "follows")
        assert_follows(self, taps, facts, "pipes", (((("c",), 1),), 0), "follows")
        assert_raises(self, follows, (taps, facts, "pipes", (((("e",), 1),), 0)), TooMany, most=3)
        # Each of the three counts for both sides.
        both = [(((lot, side),), side * 2) for lot in lots for side in (1, -1)]
        assert_follows(self, taps, both, "pipes", (((("a",), 1), (("b",), -1)), 0), "follows")

    def test_slowest_answers(self):
        started = time.process_time()
        draw = generator(89)
        for sort in SORTS:
            taps = NAMES[:REACH[sort]]
            net = drawn_net(draw, taps, sort, 2, 9, "fraction")
            for _ in range(3):
                facts = [kept_fact(draw, net, 5) for _ in range(30)]
                assert_follows(self, taps, facts, sort, kept_fact(draw, net, 5))
                assert_follows(self, taps, facts, sort, (draw.choice(facts)[0], 0))
        for sort in SORTS:
            for _ in range(4):
                taps = NAMES
                keys = keys_of(taps, sort)
                net = drawn_net(draw, taps, sort, 1, 9, "fraction")
                greater, lesser = draw.sample(keys, 2 if sort == "hubs" else 3), draw.sample(keys, 3)
                facts = []
                for _ in range(30):
                    terms = few_lots_terms(draw, taps, sort, greater, lesser)
                    facts.append((terms, as_number(counted_worth((taps, terms), net) - draw.choice((0, 1)))))
                terms = few_lots_terms(draw, taps, sort, lesser, greater)
                assert_follows(self, taps, facts, sort, (terms, as_number(counted_worth((taps, terms), net) - 2)))
        self.assertLess(time.process_time() - started, 60)

    def test_what_is_passed_in_stays(self):
        facts = [((A,), 1), (((("b",), -1),), -4)]
        before = list(facts)
        follows(ABC, facts, "pipes", ((A,), 1))
        self.assertEqual(facts, before)
        self.assertEqual(net_faults(follows(ABC, tuple(facts), "pipes", ((A,), 1))[2], ABC, "pipes"), [])


if __name__ == "__main__":
    unittest.main()
