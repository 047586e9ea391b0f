import itertools
import time
import unittest
from fractions import Fraction

from checking import (LONG, NAMES, NO_NUMBERS, NO_TAPS, SORTS, all_lots, as_number, assert_errors, assert_new,
                      assert_raises, drawn_claim, drawn_net, error_of, fraction, keys_of, plain)
from judging import (ABCD, C, claim_with, drawn_terms, generator, holding_claim, least_over_sides, lessened, rule_faults,
                     step_weights, steps_of, sum_weights)
from test_claims import NO_CLAIMS, OTHER_CLAIMS

from behindtaps.claims import plain_form
from behindtaps.errors import BadClaim, BadGiven, BadRule, BadSteps, BadTaps, BadWay, TooMany
from behindtaps.flows import walls
from behindtaps.verdicts import verdict
from behindtaps.widest import four_lots, is_derivation, is_rule, rule_worth, steps_claim, widest

AB = ("a", "b")
ABC = ("a", "b", "c")
WAYS = ("even", "free")
SORT_OF = {"even": "hubs", "free": "leads"}
NO_WAYS = (None, True, 1, "", "pipes", "Even", ["even"], ("even",), {})
NO_STEPS = (None, True, 1, "ab", [], {}, ((("a",), 1),), (((("a",), ("b",)),),), ((((("a",), ("b",)), 1),),),
            ([(("a",), ("b",)), 1],), (((("b",), ("a",)), 1),), (((("a",), ("a",)), 1),), (((("a",), ("a", "b")), 1),),
            (((("a", "b"), ("a",)), 1),), (((("a",), ("b",)), 0),), (((("a",), ("b",)), -1),), (((("a",), ("b",)), True),),
            (((("a",), ("b",)), (2, 4)),), (((("a",), ("b",)), 1), ((("a",), ("b",)), 2)), ((((), ("b",)), 1),),
            (((("a",), ABC), 1),), (((("a",), ("d",)), 1),), (((["a"], ("b",)), 1),), ((((("a",), ("b",), ("c",))), 1),),
            (((), 1),), ((None, 1),), (("ab", 1),), (((("a",), ("b",)), 1, 1),), (((("a",), ("b",)), None),))


def rule_of(net, way):
    """The walls of a net as a dict for the way, counted over all sides."""
    return {lot: as_number(least_over_sides(net, lot, [tap for tap in net[0] if tap not in lot]))
            for lot in keys_of(net[0], SORT_OF[way])}


def slow_worth(claim, way, rule):
    return sum((fraction(weight) * fraction(rule[lot if way == "free" else plain(claim[0], lot)])
                for lot, weight in claim[1]), Fraction(0))


def derivation_fits(claim, way, value, given):
    """Whether a derivation adds up, its form being right."""
    steps, shares = value
    weighted = [(step_weights(claim[0], step), weight) for step, weight in steps]
    weighted += [(dict(one[1]), share) for one, share in zip(given, shares)]
    sort = SORT_OF[way]
    return sum_weights(claim[0], weighted, sort) == sum_weights(claim[0], [(dict(claim[1]), 1)], sort)


def assert_widest(case, claim, way, given=(), word=None):
    told = widest(claim, way, given)
    case.assertEqual(len(told), 2)
    if word is not None:
        case.assertEqual(told[0], word, (claim, way, given))
    if told[0] == "holds":
        steps, shares = told[1]
        case.assertTrue(type(steps) is tuple and type(shares) is tuple and len(shares) == len(given))
        case.assertEqual(len({step for step, _ in steps}), len(steps))
        for step, weight in steps:
            case.assertIn(step, steps_of(claim[0], way))
            case.assertGreater(fraction(weight), 0)
        case.assertTrue(all(fraction(share) >= 0 for share in shares))
        case.assertTrue(derivation_fits(claim, way, told[1], given))
        case.assertIs(is_derivation(claim, way, told[1], given), True)
    else:
        case.assertEqual(told[0], "breaks")
        case.assertEqual(rule_faults(claim[0], way, told[1]), [])
        case.assertEqual(list(told[1]), keys_of(claim[0], SORT_OF[way]))
        case.assertIs(is_rule(claim[0], way, told[1]), True)
        case.assertTrue(all(slow_worth(one, way, told[1]) >= 0 for one in given))
        case.assertLess(slow_worth(claim, way, told[1]), 0)
    return told[0]


class RuleTest(unittest.TestCase):
    def test_walls_of_nets_are_rules(self):
        draw = generator(31)
        for at in range(90):
            sort = SORTS[at % 3]
            net = drawn_net(draw, NAMES[:draw.randint(2, 4)], sort, 2)
            for way in WAYS if sort != "leads" else ("free",):
                rule = rule_of(net, way)
                self.assertIs(is_rule(net[0], way, rule), True)
                self.assertEqual(rule_faults(net[0], way, rule), [])
                mixed = dict(draw.sample(list(rule.items()), len(rule)))
                self.assertIs(is_rule(net[0], way, mixed), True)

    def test_drawn_dicts_against_the_words(self):
        draw = generator(32)
        seen = {True: 0, False: 0}
        for at in range(500):
            way = WAYS[at % 2]
            taps = NAMES[:draw.randint(2, 5)]
            keys = keys_of(taps, SORT_OF[way])
            if draw.random() < 0.5:
                rule = {lot: draw.randint(0, 3) for lot in keys}
            else:
                # The sum of few things concave in the count of taps, then one number a little changed.
                top = draw.randint(0, 2)
                rule = {lot: min(len(lot), len(taps) - len(lot)) + top for lot in keys}
                at_lot = draw.choice(keys)
                rule[at_lot] = as_number(rule[at_lot] + draw.choice((0, 0, Fraction(1, 3), Fraction(-1, 3), -1, 1)))
            right = rule_faults(taps, way, rule) == []
            self.assertIs(is_rule(taps, way, rule), right, (taps, way, rule))
            seen[right] += 1
        self.assertGreater(min(seen.values()), 100)

    def test_small_rules(self):
        self.assertIs(is_rule(AB, "even", {("a",): 0}), True)
        self.assertIs(is_rule(AB, "even", {("a",): (1, LONG)}), True)
        self.assertIs(is_rule(AB, "even", {("a",): -1}), False)
        self.assertIs(is_rule(AB, "even", {("a",): (-1, LONG)}), False)
        self.assertIs(is_rule(AB, "free", {("a",): 0, ("b",): 3}), True)
        self.assertIs(is_rule(AB, "free", {("b",): 3, ("a",): -1}), False)
        for wrong in (None, True, [], (), 1, "ab", {}, {("b",): 0}, {("a",): 0, ("b",): 0}, {"a": 0}, {("a",): 0, 1: 0}):
            self.assertIs(is_rule(AB, "even", wrong), False, wrong)
        for wrong in ({("a",): 0}, {("a",): 0, ("b",): 0, ("a", "b"): 0}, {("a",): 0, ("c",): 0}):
            self.assertIs(is_rule(AB, "free", wrong), False, wrong)
        for number in NO_NUMBERS:
            self.assertIs(is_rule(AB, "even", {("a",): number}), False)
        self.assertIs(is_rule(value={("a",): 0}, way="even", taps=AB), True)
        assert_errors(self, is_rule, (AB, "even", None), [(0, BadTaps, NO_TAPS), (1, BadWay, NO_WAYS)])

    def test_rule_worth(self):
        draw = generator(33)
        for at in range(60):
            taps = NAMES[:draw.randint(2, 4)]
            net = drawn_net(draw, taps, ("pipes", "hubs")[at % 2], 2)
            claim = drawn_claim(draw, taps)
            for way in WAYS:
                rule = rule_of(net, way)
                self.assertEqual(rule_worth(claim, way, rule), as_number(slow_worth(claim, way, rule)))
        right = ((ABC, ((("a", "b"), 2), (("c",), 1))), "even", {("a",): 1, ("b",): 1, ("c",): 2})
        self.assertEqual(rule_worth(*right), 6)
        self.assertEqual(rule_worth(rule=right[2], way="even", claim=right[0]), 6)
        wrong = (None, [], {}, {("a",): 1, ("b",): 1}, {("a",): 1, ("b",): 1, ("c",): 3}, {("a",): 1, ("b",): 1, ("c",): "1"})
        assert_errors(self, rule_worth, right, [(0, BadClaim, NO_CLAIMS), (1, BadWay, NO_WAYS), (2, BadRule, wrong)])
        assert_raises(self, rule_worth, ((AB, ()), *right[1:]), BadRule)


class StepsTest(unittest.TestCase):
    def test_steps_claim(self):
        one = (("a", "b"), ("a", "c"))
        self.assertEqual(steps_claim(ABCD, "free", ((one, 2),)),
                         (ABCD, ((("a",), -2), (("a", "b"), 2), (("a", "b", "c"), -2), (("a", "c"), 2))))
        self.assertEqual(steps_claim(ABCD, "even", ((one, 2),)),
                         (ABCD, ((("a",), -2), (("a", "b"), 2), (("a", "c"), 2), (("d",), -2))))
        self.assertEqual(steps_claim(AB, "free", (((("a",), ("b",)), 1), ((("a",),), 3))), (AB, ((("a",), 4), (("b",), 1))))
        self.assertEqual(steps_claim(AB, "even", (((("a",), ("b",)), (1, 2)),)), (AB, ((("a",), 1),)))
        self.assertEqual(steps_claim(ABC, "even", ()), (ABC, ()))
        # w(a) + w(b) less w(a b), and w(a b) + w(b c) less w(b) and all: for even the second is w(c) + w(a) less w(b).
        both = (((("a",), ("b",)), 1), ((("a", "b"), ("b", "c")), 1))
        self.assertEqual(steps_claim(ABC, "even", both), (ABC, ((("a",), 2),)))
        self.assertEqual(steps_claim(taps=ABC, way="free", steps=both), (ABC, ((("a",), 1), (("b", "c"), 1))))

    def test_drawn_steps(self):
        draw = generator(34)
        for at in range(120):
            way = WAYS[at % 2]
            taps = NAMES[:draw.randint(2, 5)]
            chosen = draw.sample(steps_of(taps, way), min(4, len(steps_of(taps, way))))
            steps = tuple((step, draw.choice((1, 2, (1, 3), LONG))) for step in chosen)
            weights = sum_weights(taps, [(step_weights(taps, step), weight) for step, weight in steps], SORT_OF[way])
            self.assertEqual(steps_claim(taps, way, steps), claim_with(taps, weights))

    def test_errors(self):
        right = (ABC, "free", (((("a",), ("b",)), 1),))
        assert_errors(self, steps_claim, right, [(0, BadTaps, NO_TAPS), (1, BadWay, NO_WAYS), (2, BadSteps, NO_STEPS)])
        single = (((("a",),), 1),)
        self.assertIsNone(error_of(steps_claim, (ABC, "free", single)))
        assert_raises(self, steps_claim, (ABC, "even", single), BadSteps)


class DerivationTest(unittest.TestCase):
    def test_right_ones_that_widest_did_not_return(self):
        # w(a) >= 0 for two taps, even: the step has it twice.
        claim = (AB, ((("a",), 1),))
        step = (("a",), ("b",))
        self.assertIs(is_derivation(claim, "even", (((step, (1, 2)),), ())), True)
        self.assertIs(is_derivation(claim, "even", (((step, 1),), ())), False)
        self.assertIs(is_derivation(claim, "free", (((("a",),), 1),)), False)
        self.assertIs(is_derivation(claim, "free", ((((("a",),), 1),), ())), True)
        self.assertIs(is_derivation(claim, "even", ((), (1,)), [claim]), True)
        self.assertIs(is_derivation(claim, "even", ((), (1,)), (claim,)), True)
        self.assertIs(is_derivation(claim, "even", (((step, (1, 4)),), ((1, 4), (1, 4))), [claim, claim]), True)
        # For even the given claim of (b) is one of (a), for free it is not.
        other = (AB, ((("b",), 2),))
        self.assertIs(is_derivation(claim, "even", ((), ((1, 2),)), [other]), True)
        self.assertIs(is_derivation(claim, "free", ((), ((1, 2),)), [other]), False)
        self.assertIs(is_derivation(value=((), ()), way="free", claim=(AB, ())), True)
        self.assertIs(is_derivation((AB, ()), "free", ((), (0, 0)), [claim, other]), True)

    def test_drawn_sums(self):
        draw = generator(35)
        seen = {True: 0, False: 0}
        for at in range(240):
            way = WAYS[at % 2]
            taps = NAMES[:draw.randint(2, 5)]
            every = steps_of(taps, way)
            steps = tuple((step, draw.choice((1, 2, (1, 3)))) for step in draw.sample(every, min(3, len(every))))
            given = [drawn_claim(draw, taps) for _ in range(draw.randint(0, 2))]
            shares = tuple(draw.choice((0, 1, (2, 3))) for _ in given)
            weighted = [(step_weights(taps, step), weight) for step, weight in steps]
            weighted += [(dict(one[1]), share) for one, share in zip(given, shares)]
            claim = claim_with(taps, sum_weights(taps, weighted, "leads"))
            self.assertIs(is_derivation(claim, way, (steps, shares), given), True)
            self.assertIs(is_derivation(claim, way, (steps[::-1], shares), given), True)
            assert_widest(self, claim, way, given, "holds")
            for value in ((steps[1:], shares), (steps + steps[:1], shares), (list(steps), shares), (steps, list(shares)),
                          (steps, shares + (0,)), (shares, steps), (steps,), (steps, shares, ()), [steps, shares],
                          (((steps[0][0], as_number(fraction(steps[0][1]) + Fraction(1, LONG))),) + steps[1:], shares),
                          (((steps[0][0], 0),) + steps[1:], shares), (((steps[0][0], -1),) + steps[1:], shares),
                          (steps, tuple(-1 for _ in shares) or (1,)), None, True, 1, "ab", {}, (), (None, None)):
                self.assertIs(is_derivation(claim, way, value, given), False, (claim, value, given))
            if shares:
                other = shares[:-1] + (as_number(fraction(shares[-1]) + 1),)
                right = derivation_fits(claim, way, (steps, other), given)
                self.assertIs(is_derivation(claim, way, (steps, other), given), right)
                seen[right] += 1
        self.assertGreater(seen[False], 20)

    def test_errors(self):
        claim = (ABC, ((("a",), 1),))
        no_given = (None, True, 1, "a", {}, {claim: 1}, [None], [claim, None], [(AB, ())], [claim, (("a", "b", "d"), ())],
                    (claim[0],), [[]], claim)
        for function, right in ((is_derivation, (claim, "free", None, [claim])), (widest, (claim, "free", [claim]))):
            assert_errors(self, function, right, [(0, BadClaim, NO_CLAIMS), (1, BadWay, NO_WAYS),
                                                  (len(right) - 1, BadGiven, no_given)])
        self.assertEqual(len(OTHER_CLAIMS) - len(NO_CLAIMS), 2)
        # There is no limit for what is judged.
        big = (NAMES, ())
        self.assertIs(is_derivation(big, "free", ((), (0,) * 71), [big] * 71), True)


class WidestTest(unittest.TestCase):
    def test_small_claims(self):
        for way in WAYS:
            assert_widest(self, (AB, ()), way, (), "holds")
            assert_widest(self, (AB, ((("a",), 3),)), way, (), "holds")
            assert_widest(self, (AB, ((("a",), (-1, LONG)),)), way, (), "breaks")
            assert_widest(self, (AB, ((("a",), -1),)), way, [(AB, ((("a",), -2),))], "holds")
            assert_widest(self, (AB, ((("a",), -1),)), way, [(AB, ((("b",), -2),))], "holds" if way == "even" else "breaks")
            assert_widest(self, C, way, (), "breaks")
            assert_widest(self, C, way, [C], "holds")
            assert_widest(self, C, way, four_lots(ABCD), "holds")

    def test_drawn_claims(self):
        draw = generator(36)
        words = {}
        for at in range(240):
            way = WAYS[at % 2]
            taps = NAMES[:draw.randint(2, 5)]
            claim = drawn_terms(draw, taps, "leads", draw.randint(0, 5), draw.randint(0, 4),
                                draw.choice(("whole", "fraction", "long")))
            given = [drawn_claim(draw, taps) for _ in range(draw.choice((0, 0, 1, 2)))]
            word = assert_widest(self, claim, way, given)
            words[way, word] = words.get((way, word), 0) + 1
        self.assertEqual(len(words), 4)
        self.assertGreater(min(words.values()), 15, words)

    def test_claims_that_hold_just_so(self):
        draw = generator(37)
        for at in range(60):
            way = WAYS[at % 2]
            taps = NAMES[:draw.randint(2, 5)]
            claim = holding_claim(draw, taps, SORT_OF[way], 9)
            assert_widest(self, claim, way, (), "holds")
            for lot in draw.sample(all_lots(taps), 2):
                low, high = Fraction(0), Fraction(0)
                while widest(lessened(claim, lot, high), way)[0] == "holds" and high < 9:
                    low, high = high, high + Fraction(1, 6)
                assert_widest(self, lessened(claim, lot, low), way, (), "holds")
                assert_widest(self, lessened(claim, lot, low + Fraction(1, 6)), way, (), "breaks")
                if widest(lessened(claim, lot, low + Fraction(1, LONG)), way)[0] == "breaks":
                    assert_widest(self, lessened(claim, lot, low + Fraction(1, LONG)), way, (), "breaks")

    def test_with_few_taps_it_is_as_verdict(self):
        draw = generator(38)
        words = {}
        for at in range(150):
            sort = SORTS[at % 3]
            taps = NAMES[:draw.randint(2, {"hubs": 4, "leads": 3, "pipes": 5}[sort])]
            claim = drawn_terms(draw, taps, sort, draw.randint(0, 3), draw.randint(0, 2))
            way = "free" if sort == "leads" else "even"
            given = four_lots(taps) if sort == "pipes" else ()
            word = verdict(claim, sort)[0]
            assert_widest(self, claim, way, given, word)
            words[sort, word] = words.get((sort, word), 0) + 1
        self.assertEqual(len(words), 6)

    def test_limits(self):
        for many in (70, 71):
            given = [(AB, ((("a",), at + 1),)) for at in range(many)]
            if many == 70:
                assert_widest(self, (AB, ((("b",), -1),)), "free", given, "breaks")
            else:
                assert_raises(self, widest, ((AB, ()), "free", given), TooMany, most=70)
                assert_raises(self, widest, ((AB, ()), "even", tuple(given)), TooMany, most=70)
        assert_raises(self, widest, ((NAMES, ()), "free"), TooMany, most=5)
        assert_raises(self, widest, ((NAMES, ()), "free", [(NAMES, ())] * 71), TooMany, most=5)
        assert_raises(self, widest, ((NAMES, ()), "free", [(AB, ())] * 71), BadGiven)
        assert_widest(self, (NAMES, ()), "even", (), "holds")
        assert_widest(self, (NAMES[:5], ()), "free", (), "holds")
        self.assertEqual(widest(given=(), way="free", claim=(AB, ()))[0], "holds")

    def test_given_claims_are_not_changed(self):
        given = [C, (ABCD, ())]
        widest(C, "even", given)
        self.assertEqual(given, [C, (ABCD, ())])

    def test_slowest_answers(self):
        started = time.process_time()
        draw = generator(39)
        for at in range(4):
            given = [drawn_terms(draw, NAMES, "hubs", 4, 3) for _ in range(70)]
            claim = drawn_terms(draw, NAMES, "hubs", 6, 6)
            assert_widest(self, claim, "even", given)
            given = [drawn_terms(draw, NAMES[:5], "leads", 4, 3) for _ in range(70)]
            assert_widest(self, drawn_terms(draw, NAMES[:5], "leads", 6, 6), "free", given)
        self.assertLess(time.process_time() - started, 60)


class FourLotsTest(unittest.TestCase):
    def test_four_taps(self):
        self.assertEqual(four_lots(ABCD), [C])
        self.assertEqual(four_lots(AB), [])
        self.assertEqual(four_lots(taps=ABC), [])
        assert_new(self, four_lots, (ABCD,))
        assert_errors(self, four_lots, (ABCD,), [(0, BadTaps, NO_TAPS)])

    def test_more_taps(self):
        for taps, many in ((NAMES[:5], 10), (NAMES, 65)):
            expected = []
            for numbers in itertools.product(range(4), repeat=len(taps)):
                parts = tuple(tuple(tap for tap, number in zip(taps, numbers) if number == part) for part in range(4))
                if all(parts) and parts == tuple(sorted(parts)):
                    expected.append(parts)
            told = four_lots(taps)
            self.assertEqual(len(told), many)
            for claim, (p, q, r, s) in zip(told, sorted(expected)):
                weights = {}
                for lot, weight in ((p + q, 1), (p + r, 1), (q + r, 1), (p, -1), (q, -1), (r, -1), (s, -1)):
                    key = plain(taps, tuple(sorted(lot)))
                    weights[key] = weights.get(key, 0) + weight
                self.assertEqual(claim, claim_with(taps, weights))
                self.assertEqual(plain_form(claim, "hubs"), claim)

    def test_they_hold_for_pipes(self):
        draw = generator(40)
        for claim in four_lots(NAMES[:5]) + four_lots(NAMES)[::9]:
            self.assertEqual(verdict(claim, "pipes")[0], "holds")
            self.assertEqual(widest(claim, "even")[0], "breaks")
            net = drawn_net(draw, claim[0], "pipes", 3)
            self.assertGreaterEqual(slow_worth(claim, "even", walls(net)), 0)


if __name__ == "__main__":
    unittest.main()
