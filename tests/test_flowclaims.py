import itertools
import time
import unittest
from fractions import Fraction

from checking import (LONG, NAMES, NO_SORTS, SORTS, all_lots, as_number, assert_errors, assert_new, assert_raises,
                      drawn_net, error_of, fraction, other_taps)
from judging import ABCD, C, Cube, drawn_terms, generator, least_over_sides
from test_cubes import changed_papers
from test_nets import NO_NETS

from behindtaps.errors import BadFlowClaim, BadNet, BadSort, BadStanding, TooMany
from behindtaps.flowclaims import flow_verdict, flow_worth, is_flow_claim, is_flow_paper, standings
from behindtaps.nets import is_net, is_of_sort
from behindtaps.verdicts import verdict

AB = ("a", "b")
ABC = ("a", "b", "c")
A, B, CC = ("a",), ("b",), ("c",)
EXAMPLE = (ABC, (((A, B), 1), ((A, ("b", "c")), -1), ((CC, AB), 1)))
NO_TERMS = (None, True, [], [((A, B), 1)], (((A, B), 0),), (((A, B), True),), (((A, B), (2, 4)),), (((A, B), None),),
            (((A, A), 1),), (((A, AB), 1),), (((A, ()), 1),), ((((), A), 1),), (((A, ABC), 1),), (((A, ("d",)), 1),),
            (((B, A), 1), ((A, B), 1)), (((A, B), 1), ((A, B), 2)), (((A,), 1),), (((A, B, CC), 1),), (([A, B], 1),),
            (([("a",)], B),), (((["a"], B), 1),), (((A, ("c", "b")), 1),), (((A, B), 1, 1),), (((A, B),),), (("a", "b"),),
            ((("a", "b"), 1),), ([(A, B), 1],), (None,), (1,), "ab", {}, ((A, 1),), ((("a", ("b",)), 1),))
NO_FLOW_CLAIMS = (None, True, 1, "claim", (), (ABC,), [ABC, ()], (ABC, (), ()), (ABC, {}), ((), ()), (A, ()),
                  (("b", "a"), ()), (["a", "b"], ()), {}, C) + tuple((ABC, terms) for terms in NO_TERMS)


def many_directions(many, idle=False):
    """A flow claim with so many greater terms, each with one standing or with idle taps."""
    lots = [lot for lot in all_lots(ABCD) if len(lot) <= 2][:many]
    return (ABCD, tuple(((lot, other_taps(ABCD, lot)[:1] if idle else other_taps(ABCD, lot)), 1) for lot in lots))


def slow_standings(claim):
    """All standings, as [47] tells them."""
    choices = []
    for (first, second), weight in claim[1]:
        if fraction(weight) > 0:
            idle = [tap for tap in claim[0] if tap not in first and tap not in second]
            choices.append([tuple(sorted((*first, *more))) for many in range(len(idle) + 1)
                            for more in itertools.combinations(idle, many)])
    return sorted(itertools.product(*choices))


def counted_worth(claim, net):
    return sum((fraction(weight) * least_over_sides(net, first, second) for (first, second), weight in claim[1]),
               Fraction(0))


def faults(claim, sort, standing, paper):
    """What is wrong with a paper for a standing, by [48]."""
    weights = [fraction(weight) for _, weight in claim[1] if fraction(weight) > 0]
    targets = [(first, second, -fraction(weight)) for (first, second), weight in claim[1] if fraction(weight) < 0]
    return Cube(claim[0], sort, list(zip(standing, weights))).faults(targets, paper)


def drawn_pair(draw, taps):
    """Two lots without a common tap."""
    while True:
        blocks = [draw.choice((0, 1, 2)) for _ in taps]
        pair = tuple(tuple(tap for tap, block in zip(taps, blocks) if block == one) for one in (0, 1))
        if pair[0] and pair[1]:
            return pair


def drawn_flow_claim(draw, taps, greater, lesser, kind="whole"):
    pairs = {}
    for at in range(greater + lesser):
        weight = Fraction(draw.randint(1, 6), 1 if kind == "whole" else draw.randint(1, 5))
        if kind == "long":
            weight = Fraction(draw.randint(1, LONG), draw.randint(1, LONG))
        pairs[drawn_pair(draw, taps)] = weight * (draw.choice((1, 4)) if at < greater else -1)
    return flow_claim(taps, pairs)


def flow_claim(taps, pairs):
    return (taps, tuple((pair, as_number(pairs[pair])) for pair in sorted(pairs) if pairs[pair] != 0))


def flow_form(claim):
    """The flow claim of the lots of a claim and their opposites."""
    return (claim[0], tuple(((lot, other_taps(claim[0], lot)), weight) for lot, weight in claim[1]))


class FlowClaimTest(unittest.TestCase):
    def test_is_flow_claim(self):
        for claim in (EXAMPLE, (AB, ()), (AB, (((A, B), (1, LONG)), ((B, A), -LONG))), flow_form(C)):
            self.assertIs(is_flow_claim(claim), True, claim)
        for value in NO_FLOW_CLAIMS:
            self.assertIs(is_flow_claim(value), False, value)
        self.assertIs(is_flow_claim(value=EXAMPLE), True)

    def test_flow_worth(self):
        draw = generator(21)
        for at in range(120):
            taps = NAMES[:draw.randint(2, 5)]
            claim = drawn_flow_claim(draw, taps, draw.randint(0, 3), draw.randint(0, 3), draw.choice(("whole", "long")))
            net = drawn_net(draw, taps, SORTS[at % 3], 2)
            self.assertEqual(flow_worth(claim, net), as_number(counted_worth(claim, net)))
        self.assertEqual(flow_worth((AB, ()), (AB, (("pipe", "a", "b", 4),))), 0)
        assert_errors(self, flow_worth, (EXAMPLE, (ABC, ())), [
            (0, BadFlowClaim, NO_FLOW_CLAIMS), (1, BadNet, NO_NETS + ((AB, ()), (("a", "b", "d"), ())))])
        self.assertEqual(flow_worth(net=(ABC, ()), claim=EXAMPLE), 0)

    def test_standings(self):
        self.assertEqual(standings(EXAMPLE), [(A, CC), (("a", "c"), CC)])
        self.assertEqual(standings((AB, ())), [()])
        self.assertEqual(standings((ABC, (((A, B), -1),))), [()])
        draw = generator(22)
        for _ in range(60):
            claim = drawn_flow_claim(draw, NAMES[:draw.randint(2, 5)], draw.randint(0, 3), 1)
            expected = slow_standings(claim)
            if len(expected) <= 64:
                self.assertEqual(standings(claim), expected)
                assert_new(self, standings, (claim,))
            else:
                assert_raises(self, standings, (claim,), TooMany, most=64)
        assert_errors(self, standings, (EXAMPLE,), [(0, BadFlowClaim, NO_FLOW_CLAIMS)])
        self.assertEqual(len(standings(claim=many_standings(64))), 64)
        assert_raises(self, standings, (many_standings(65),), TooMany, most=64)


def many_standings(many):
    """A flow claim with six taps and three greater terms that has 64 standings, or more of them."""
    idle = 2 if many == 64 else 3
    pairs = {}
    for at in range(3):
        taps = NAMES[at:] + NAMES[:at]
        pairs[tuple(sorted(taps[:1])), tuple(sorted(taps[1 + (idle if at == 0 else 2):]))] = Fraction(at + 1)
    return flow_claim(NAMES, pairs)


class FlowVerdictTest(unittest.TestCase):
    def assert_verdict(self, claim, sort, word=None):
        told = flow_verdict(claim, sort)
        self.assertEqual(len(told), 2)
        if word is not None:
            self.assertEqual(told[0], word, (claim, sort))
        if told[0] == "holds":
            expected = slow_standings(claim)
            self.assertEqual(len(told[1]), len(expected))
            self.assertIs(type(told[1]), tuple)
            for standing, paper in zip(expected, told[1]):
                self.assertEqual(faults(claim, sort, standing, paper), [], (claim, sort))
                self.assertIs(is_flow_paper(claim, sort, standing, paper), True)
        else:
            self.assertEqual(told[0], "breaks")
            self.assertIs(is_net(told[1]) and is_of_sort(told[1], sort) and told[1][0] == claim[0], True)
            self.assertLess(counted_worth(claim, told[1]), 0, (claim, sort))
        return told[0]

    def test_the_example(self):
        for sort in SORTS:
            # What leaves c can be less than what comes to it along leads.
            self.assert_verdict(EXAMPLE, sort, "breaks" if sort == "leads" else "holds")
        self.assertEqual(len(flow_verdict(EXAMPLE, "pipes")[1]), 2)

    def test_small_claims(self):
        for sort in SORTS:
            self.assertEqual(flow_verdict((AB, ()), sort), ("holds", ((),)))
            self.assertEqual(flow_verdict((ABC, (((A, B), 2),)), sort), ("holds", ((), ())))
            self.assert_verdict((ABC, (((A, B), -1),)), sort, "breaks")
            self.assert_verdict((ABC, (((A, B), (-1, LONG)),)), sort, "breaks")
            # The wall of a is no less than what runs from a to b, and not the other way round.
            self.assert_verdict((ABC, (((A, B), -1), ((A, ("b", "c")), 1))), sort, "holds")
            self.assert_verdict((ABC, (((A, B), 1), ((A, ("b", "c")), -1))), sort, "breaks")
            self.assert_verdict((ABC, (((A, B), 1), ((B, A), -1))), sort, "breaks" if sort == "leads" else "holds")
            # What runs from a to b and from b to c need not let anything more run from a to c, and may let less.
            self.assert_verdict((ABC, (((A, B), -1), ((A, CC), 1), ((B, CC), -1))), sort, "breaks")

    def test_taps_of_one_corner(self):
        # a and b stand on one side in the standing (a, b): a pipe between them is part of what breaks the claim.
        for sort in SORTS:
            self.assert_verdict(flow_claim(ABCD, {(A, ("d",)): 1, (A, CC): -1}), sort, "breaks")
            self.assert_verdict(flow_claim(ABCD, {(A, CC): -1, (AB, CC): 1}), sort, "holds")
            self.assert_verdict(flow_claim(ABCD, {(A, CC): -1, (A, ("c", "d")): 1, (AB, ("c", "d")): 1}), sort, "holds")
            self.assert_verdict(flow_claim(ABCD, {(A, CC): 1, (B, CC): -1, (A, B): Fraction(1, 2)}), sort, "breaks")

    def test_drawn_claims(self):
        draw = generator(23)
        words = {}
        for at in range(330):
            sort = SORTS[at % 3]
            taps = NAMES[:draw.randint(2, 4)]
            claim = drawn_flow_claim(draw, taps, draw.randint(0, 3), draw.randint(0, 2),
                                     draw.choice(("whole", "fraction", "long")))
            if len(slow_standings(claim)) > 64:
                continue
            word = self.assert_verdict(claim, sort)
            words[sort, word] = words.get((sort, word), 0) + 1
        self.assertEqual(len(words), 6, words)
        self.assertGreater(min(words.values()), 15, words)

    def test_claims_that_hold_just_so(self):
        # The least factor of a greater term with which a claim holds is found between two that are close.
        draw = generator(24)
        for at in range(24):
            sort = SORTS[at % 3]
            taps = NAMES[:draw.randint(3, 4)]
            claim = drawn_flow_claim(draw, taps, 2, 1)
            if len(slow_standings(claim)) > 64 or len([1 for _, weight in claim[1] if weight > 0]) < 2:
                continue
            low, high = Fraction(0), Fraction(64)
            if flow_verdict(self.with_factor(claim, high), sort)[0] == "breaks":
                continue
            while high - low > Fraction(1, 10 ** 4):
                middle = (low + high) / 2
                if flow_verdict(self.with_factor(claim, middle), sort)[0] == "holds":
                    high = middle
                else:
                    low = middle
            exact = high.limit_denominator(60)
            if exact < high and exact > 0:
                self.assert_verdict(self.with_factor(claim, exact), sort, "holds")
                self.assert_verdict(self.with_factor(claim, exact - Fraction(1, LONG)), sort, "breaks")
            self.assert_verdict(self.with_factor(claim, high), sort, "holds")
            self.assert_verdict(self.with_factor(claim, low), sort)

    def with_factor(self, claim, factor):
        pairs = {pair: fraction(weight) * (factor if fraction(weight) > 0 else 1) for pair, weight in claim[1]}
        return flow_claim(claim[0], pairs)

    def test_as_claims_of_lots(self):
        draw = generator(25)
        for at in range(90):
            sort = SORTS[at % 3]
            claim = drawn_terms(draw, NAMES[:draw.randint(2, 4)], sort, draw.randint(0, 3), draw.randint(0, 2))
            self.assert_verdict(flow_form(claim), sort, verdict(claim, sort)[0])
        self.assert_verdict(flow_form(C), "pipes", "holds")
        self.assert_verdict(flow_form(C), "hubs", "breaks")

    def test_the_least_of_walls(self):
        draw = generator(26)
        for at in range(60):
            taps = NAMES[:draw.randint(3, 4)]
            net = drawn_net(draw, taps, SORTS[at % 3], 2)
            claim = (taps, ((drawn_pair(draw, taps), 1),))
            worths = [least_over_sides(net, lot, other_taps(taps, lot)) for lot, in slow_standings(claim)]
            self.assertEqual(flow_worth(claim, net), as_number(min(worths)))

    def test_no_greater_terms_have_one_standing(self):
        claim = (ABCD, (((A, B), -1), ((A, CC), (-1, 2))))
        self.assertEqual(standings(claim), [()])
        for sort in SORTS:
            self.assert_verdict(claim, sort, "breaks")

    def test_errors(self):
        assert_errors(self, flow_verdict, (EXAMPLE, "pipes"), [(0, BadFlowClaim, NO_FLOW_CLAIMS), (1, BadSort, NO_SORTS)])
        for sort, most in (("pipes", 4), ("leads", 4), ("hubs", 3)):
            self.assertEqual(flow_verdict(many_directions(most), sort), ("holds", ((),)))
            assert_raises(self, flow_verdict, (many_directions(most + 1), sort), TooMany, most=most)
            # Five greater terms with four standings each: the directions come first.
            assert_raises(self, flow_verdict, (many_directions(5, True), sort), TooMany, most=most)
            assert_raises(self, flow_verdict, (many_standings(65), sort), TooMany, most=64)
        self.assertEqual(flow_verdict(sort="hubs", claim=(AB, ())), ("holds", ((),)))

    def test_slowest_answers(self):
        started = time.process_time()
        for sort in SORTS:
            pairs = dict(many_standings(64)[1])
            for lot in (("a",), ("b", "c"), ("d",)):
                for other in (("e", "f"), ("f",)):
                    pairs[lot, other] = Fraction(-1, 3)
            claim = flow_claim(NAMES, {pair: fraction(weight) if isinstance(weight, int) else weight
                                       for pair, weight in pairs.items()})
            self.assertEqual(len(standings(claim)), 64)
            self.assert_verdict(claim, sort)
        taps = NAMES
        wide = {((taps[at],), tuple(tap for tap in taps if tap not in (taps[at], taps[5]))): Fraction(9) for at in range(4)}
        for sort in SORTS[:2]:
            claim = flow_claim(taps, {**wide, (("a", "b"), ("c", "d")): Fraction(-1), (("a",), ("e",)): Fraction(-1, 7)})
            self.assertEqual(len(standings(claim)), 16)
            self.assert_verdict(claim, sort)
        self.assertLess(time.process_time() - started, 60)


class FlowPaperTest(unittest.TestCase):
    def test_papers_against_the_words(self):
        draw = generator(27)
        seen = {True: 0, False: 0}
        for at in range(240):
            sort = SORTS[at % 3]
            claim = drawn_flow_claim(draw, NAMES[:draw.randint(2, 4)], draw.randint(1, 3), draw.randint(1, 2))
            if len(slow_standings(claim)) > 64:
                continue
            word, shown = flow_verdict(claim, sort)
            if word == "breaks":
                continue
            for standing, paper in list(zip(slow_standings(claim), shown))[:3]:
                for value in (paper, *changed_papers(draw, paper)):
                    right = faults(claim, sort, standing, value) == []
                    self.assertIs(is_flow_paper(claim, sort, standing, value), right, (claim, sort, standing, value))
                    seen[right] += 1
        self.assertGreater(min(seen.values()), 60)

    def test_idle_taps_may_have_any_number(self):
        # Lesser (a) to (b), greater the wall of (a) and that of (a, c): c is idle in the lesser term.
        claim = (ABC, (((A, B), -1), ((A, ("b", "c")), 1), ((("a", "c"), B), 1)))
        standing = (A, ("a", "c"))
        for number in (0, (1, 2), 1):
            # Corners of a, b, c are 11, 00, 01.
            self.assertIs(is_flow_paper(claim, "pipes", standing, ((0, number, 0, 1),)), True)
        self.assertIs(is_flow_paper(claim, "pipes", standing, ((0, (1, 2), 0, (1, 2)),)), False)
        self.assertIs(is_flow_paper(claim, "pipes", standing, (((1, 2), (1, 2), 0, 1),)), False)

    def test_judged_values(self):
        standing = (A, CC)
        word, papers = flow_verdict(EXAMPLE, "pipes")
        self.assertEqual(word, "holds")
        self.assertIs(is_flow_paper(EXAMPLE, "pipes", standing, papers[0]), True)
        for value in (None, True, 3, "paper", [], list(papers[0]), papers[0] * 2, (), papers, (list(papers[0][0]),),
                      (papers[0][0][:-1],), (papers[0][0] + (0,),), {0: papers[0][0]}, (("0", 0, 0, 1),), ((None,) * 4,)):
            self.assertIs(is_flow_paper(EXAMPLE, "pipes", standing, value), False, value)

    def test_errors(self):
        standing = (A, CC)
        no_standings = (None, True, 1, "ac", [], [A, CC], (), (A,), (CC, A), (A, CC, CC), (AB, CC), (A, ("b", "c")), ((), CC),
                        (["a"], CC), ("a", "c"), (("c", "a"), CC), (("a", "b", "c"), CC), {}, (A, None), (A, ("d",)))
        assert_errors(self, is_flow_paper, (EXAMPLE, "pipes", standing, None), [
            (0, BadFlowClaim, NO_FLOW_CLAIMS), (1, BadSort, NO_SORTS), (2, BadStanding, no_standings)])
        self.assertIsNone(error_of(is_flow_paper, (EXAMPLE, "pipes", (("a", "c"), CC), None)))
        for sort, most in (("pipes", 4), ("leads", 4), ("hubs", 3)):
            claim = many_directions(most + 1)
            standing = tuple(lot for (lot, _), _ in claim[1])
            assert_raises(self, is_flow_paper, (claim, sort, standing, ()), TooMany, most=most)
            assert_raises(self, is_flow_paper, (claim, sort, standing[1:], ()), BadStanding)
            self.assertIs(is_flow_paper(many_directions(most), sort, standing[:-1], ()), True)
        # More than 64 standings are no hindrance for one of them.
        claim = many_standings(65)
        self.assertIs(is_flow_paper(value=(), standing=slow_standings(claim)[0], sort="hubs", claim=claim), True)


if __name__ == "__main__":
    unittest.main()
