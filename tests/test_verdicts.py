import itertools
import unittest
from fractions import Fraction

from checking import (LONG, NAMES, NO_SORTS, SORTS, all_lots, as_number, assert_errors, assert_raises, error_of, fraction,
                      plain, plain_weights)
from judging import (ABCD, C, claim_with, counted_worth, drawn_terms, generator, holding_claim, least_over_sides, lessened,
                     paper_faults, step_weights)
from test_claims import NO_CLAIMS
from test_cubes import PAPER_OF_C, many_greater

from behindtaps.claims import added, multiplied, plain_form, renamed_claim
from behindtaps.cubes import is_paper
from behindtaps.errors import BadClaim, BadLot, BadSort, TooMany
from behindtaps.flows import walls
from behindtaps.nets import is_net, is_of_sort
from behindtaps.verdicts import greatest_share, verdict

AB = ("a", "b")
ABC = ("a", "b", "c")
NO_LOTS = (None, True, 1, "a", (), ["a"], ("a", "b", "c", "d"), ("b", "a"), ("a", "a"), ("e",), (1,), {})
SIXES = (1, Fraction(1, LONG), Fraction(1, 3))


def assert_verdict(case, claim, sort, word=None):
    """The answer is a paper that fits corner by corner, or a net in which the claim, counted over all sides, fails."""
    told = verdict(claim, sort)
    case.assertIs(type(told), tuple)
    case.assertEqual(len(told), 2)
    if word is not None:
        case.assertEqual(told[0], word, (claim, sort))
    if told[0] == "holds":
        case.assertEqual(paper_faults(claim, sort, told[1]), [], (claim, sort))
        case.assertIs(is_paper(claim, sort, told[1]), True)
    else:
        case.assertEqual(told[0], "breaks")
        case.assertIs(is_net(told[1]), True)
        case.assertIs(is_of_sort(told[1], sort), True)
        case.assertEqual(told[1][0], claim[0])
        case.assertLess(counted_worth(claim, told[1]), 0, (claim, sort))
    return told[0]


def changed(claim, at, more):
    """The claim with the weight of one term raised by a fraction."""
    lot, weight = claim[1][at]
    weights = {one: fraction(told) for one, told in claim[1]}
    weights[lot] = fraction(weight) + more
    return claim_with(claim[0], weights)


class VerdictTest(unittest.TestCase):
    def test_the_four_lots(self):
        self.assertIs(is_paper(C, "pipes", PAPER_OF_C), True)
        assert_verdict(self, C, "pipes", "holds")
        assert_verdict(self, C, "hubs", "breaks")
        assert_verdict(self, C, "leads", "breaks")
        self.assertEqual(counted_worth(C, (ABCD, (("hub", ABCD, 1),))), 3 - 4)

    def test_two_lots_for_all_sorts(self):
        for taps in (AB, ABC, ABCD):
            for one, other in itertools.combinations(all_lots(taps), 2):
                claim = claim_with(taps, step_weights(taps, (one, other)) if not set(one) <= set(other)
                                   and not set(other) <= set(one) else {})
                for sort in SORTS:
                    assert_verdict(self, claim, sort, "holds")

    def test_small_claims(self):
        for sort in SORTS:
            assert_verdict(self, (AB, ()), sort, "holds")
            self.assertEqual(verdict((AB, ()), sort), ("holds", ()))
            self.assertEqual(verdict((AB, ((("a",), 3),)), sort), ("holds", ()))
            assert_verdict(self, (AB, ((("a",), -1),)), sort, "breaks")
            assert_verdict(self, (ABC, ((("a",), (-1, LONG)),)), sort, "breaks")
            crossed = (AB, ((("a",), 2), (("b",), -1)))
            assert_verdict(self, crossed, sort, "breaks" if sort == "leads" else "holds")
            assert_verdict(self, (AB, ((("a",), 1), (("b",), -1))), sort, "breaks" if sort == "leads" else "holds")
            assert_verdict(self, (AB, ((("a",), 1), (("b",), (-LONG, LONG - 1)))), sort, "breaks")

    def test_two_taps_with_one_corner(self):
        for sort in SORTS:
            assert_verdict(self, (ABC, ((("a",), 9), (("b",), -1))), sort, "breaks")
            assert_verdict(self, (ABCD, ((("a", "b"), 7), (("a", "c"), (-1, 2)))), sort, "breaks")
            # b and c have one corner, but no lesser term has just one of them.
            assert_verdict(self, (ABC, ((("a",), 2), (("b", "c"), -1))), sort, "breaks" if sort == "leads" else "holds")
            assert_verdict(self, (ABCD, ((("a",), 1), (("a", "b"), -1), (("b",), 1))), sort, "holds")

    def test_drawn_claims(self):
        draw = generator(11)
        words = {}
        for at in range(360):
            sort = SORTS[at % 3]
            taps = NAMES[:draw.randint(2, 5)]
            greater = draw.randint(0, 3 if at % 20 or sort == "hubs" else 4)
            claim = drawn_terms(draw, taps, sort, greater, draw.randint(0, 4), draw.choice(("whole", "fraction", "long")))
            word = assert_verdict(self, claim, sort)
            words[sort, word] = words.get((sort, word), 0) + 1
        self.assertEqual(len(words), 6, words)
        self.assertGreater(min(words.values()), 15, words)

    def test_claims_that_hold_just_so_and_a_little_less(self):
        draw = generator(12)
        for at in range(150):
            sort = SORTS[at % 3]
            taps = NAMES[:draw.randint(2, 4)]
            claim = holding_claim(draw, taps, sort)
            assert_verdict(self, claim, sort, "holds")
            if not claim[1] or not plain_weights(claim, sort):
                continue
            lot = draw.choice(all_lots(taps))
            share = fraction(greatest_share(claim, sort, lot)[0])
            bound = lessened(claim, lot, share)
            assert_verdict(self, bound, sort, "holds")
            for little in (1, Fraction(1, LONG)):
                assert_verdict(self, lessened(bound, lot, little), sort, "breaks")
                term = draw.randrange(len(claim[1]))
                more = changed(claim, term, little)
                if all(weight > 0 for weight in plain_weights(claim_with(taps, {claim[1][term][0]: 1}), sort).values()):
                    if sum(weight > 0 for weight in plain_weights(more, sort).values()) <= 3:
                        assert_verdict(self, more, sort, "holds")

    def test_lesser_terms_a_little_greater(self):
        for weight in (1, (1, 3), LONG):
            worth = fraction(weight)
            base = {("a",): worth, ("b",): worth, ("a", "b"): -worth}
            for sort in SORTS:
                assert_verdict(self, claim_with(ABC, base), sort, "holds")
                for little in SIXES:
                    assert_verdict(self, claim_with(ABC, {**base, ("a", "b"): -worth - little}), sort, "breaks")
                    assert_verdict(self, claim_with(ABC, {**base, ("a", "b"): little - worth}), sort, "holds")
                    assert_verdict(self, claim_with(ABC, {**base, ("b",): worth - little}), sort, "breaks")
                    assert_verdict(self, claim_with(ABC, {**base, ("b",): worth + little}), sort, "holds")
        for little in SIXES:
            four = {lot: fraction(weight) for lot, weight in C[1]}
            assert_verdict(self, claim_with(ABCD, {**four, ("a", "d"): 1 - little}), "pipes", "breaks")
            assert_verdict(self, claim_with(ABCD, {**four, ("c",): -1 - little}), "pipes", "breaks")
            assert_verdict(self, claim_with(ABCD, {**four, ("c",): -1 + little}), "pipes", "holds")
            hubs = {lot: weight * (Fraction(4, 3) if weight > 0 else 1) for lot, weight in four.items()}
            assert_verdict(self, claim_with(ABCD, hubs), "hubs", "holds")
            assert_verdict(self, claim_with(ABCD, {**hubs, ("a", "b"): Fraction(4, 3) - little}), "hubs", "breaks")

    def test_facts(self):
        draw = generator(13)
        for at in range(120):
            sort = SORTS[at % 3]
            taps = NAMES[:draw.randint(2, 4)]
            claim = drawn_terms(draw, taps, sort, draw.randint(0, 3), draw.randint(1, 2))
            word = verdict(claim, sort)[0]
            self.assertEqual(verdict(plain_form(claim, sort), sort)[0], word)
            self.assertEqual(verdict(multiplied(claim, draw.choice((7, (1, 3), LONG))), sort)[0], word)
            names = dict(zip(taps, draw.sample(("z", "y", "x1", "b", "a"), len(taps))))
            self.assertEqual(verdict(renamed_claim(claim, names), sort)[0], word)
            for one in SORTS:
                if word == "holds" and sort == "leads" and error_of(verdict, (claim, one)) is None:
                    self.assertEqual(verdict(claim, one)[0], "holds")
        for at in range(60):
            sort = SORTS[at % 3]
            one, other = holding_claim(draw, ABCD, sort, 2), holding_claim(draw, ABCD, sort, 2)
            both = added(one, other)
            if error_of(verdict, (both, sort)) is None:
                self.assertEqual(verdict(both, sort)[0], "holds")
            more = added(one, (ABCD, ((draw.choice(all_lots(ABCD)), (1, 3)),)))
            if error_of(verdict, (more, sort)) is None:
                self.assertEqual(verdict(more, sort)[0], "holds")

    def test_errors(self):
        assert_errors(self, verdict, (C, "pipes"), [(0, BadClaim, NO_CLAIMS), (1, BadSort, NO_SORTS)])
        for sort, most in (("pipes", 4), ("leads", 4), ("hubs", 3)):
            self.assertEqual(verdict(many_greater(most), sort), ("holds", ()))
            assert_raises(self, verdict, (many_greater(most + 1), sort), TooMany, most=most)
        self.assertEqual(verdict(sort="hubs", claim=(AB, ())), ("holds", ()))

    def test_slowest_answers(self):
        draw = generator(14)
        for at in range(12):
            sort = SORTS[at % 3]
            most = 3 if sort == "hubs" else 4
            while True:
                claim = drawn_terms(draw, NAMES, sort, most, 8, "whole")
                weights = {lot: fraction(weight) * (60 if fraction(weight) > 0 else 1) for lot, weight in claim[1]}
                claim = claim_with(NAMES, weights)
                corner = {tuple(tap in lot for lot, weight in plain_weights(claim, sort).items() if weight > 0)
                          for tap in NAMES}
                if len(corner) == 6 and sum(weight > 0 for weight in plain_weights(claim, sort).values()) == most:
                    break
            word, shown = verdict(claim, sort)
            if word == "holds":
                self.assertEqual(paper_faults(claim, sort, shown), [])
            else:
                self.assertIs(is_net(shown), True)
                told = walls(shown)
                keys = {lot: told.get(lot, told.get(plain(NAMES, lot))) for lot, _ in claim[1]}
                self.assertLess(sum(fraction(weight) * fraction(keys[lot]) for lot, weight in claim[1]), 0)


class GreatestShareTest(unittest.TestCase):
    def assert_share(self, claim, sort, lot, share=None):
        told = greatest_share(claim, sort, lot)
        self.assertIs(type(told), tuple)
        number, paper, net = told
        if share is not None:
            self.assertEqual(number, share, (claim, sort, lot))
        less = lessened(claim, lot, number)
        self.assertEqual(paper_faults(less, sort, paper), [])
        self.assertIs(is_net(net) and is_of_sort(net, sort) and net[0] == claim[0], True)
        self.assertGreater(least_over_sides(net, lot, [tap for tap in net[0] if tap not in lot]), 0)
        self.assertEqual(counted_worth(less, net), 0)
        return fraction(number)

    def test_known_shares(self):
        for sort in SORTS:
            self.assert_share((AB, ((("a",), 3),)), sort, ("a",), 3)
            self.assert_share((AB, ((("a",), (1, LONG)),)), sort, ("a",), (1, LONG))
            self.assert_share((AB, ()), sort, ("a",), 0)
            self.assert_share((ABC, ((("a",), 1), (("b",), 1))), sort, ("a", "b"), 1)
            self.assert_share((ABC, ((("a",), 1),)), sort, ("b",), 0)
            self.assert_share((AB, ((("a",), 3),)), sort, ("b",), 0 if sort == "leads" else 3)
            self.assertIsNone(greatest_share((AB, ((("a",), -1),)), sort, ("a",)))
        # w(a b) + w(a c) + w(a d) is not below 2 w(a), and with pipes not below 2 w(a) + ...
        three = (ABCD, ((("a", "b"), 1), (("a", "c"), 1), (("a", "d"), 1)))
        self.assert_share(three, "pipes", ("a",), 2)
        self.assert_share(C, "pipes", ("a",), 0)
        self.assertIsNone(greatest_share(C, "hubs", ("a",)))

    def test_drawn_shares(self):
        draw = generator(15)
        nones = 0
        for at in range(150):
            sort = SORTS[at % 3]
            taps = NAMES[:draw.randint(2, 4)]
            claim = drawn_terms(draw, taps, sort, draw.randint(1, 3), draw.randint(0, 1), draw.choice(("whole", "fraction")))
            lot = draw.choice(all_lots(taps))
            if greatest_share(claim, sort, lot) is None:
                nones += 1
                self.assertEqual(verdict(claim, sort)[0], "breaks")
                continue
            self.assertEqual(verdict(claim, sort)[0], "holds")
            share = self.assert_share(claim, sort, lot)
            self.assertGreaterEqual(share, 0)
            self.assertEqual(verdict(lessened(claim, lot, share), sort)[0], "holds")
            self.assertEqual(verdict(lessened(claim, lot, share + Fraction(1, LONG)), sort)[0], "breaks")
        self.assertGreater(nones, 15)
        self.assertLess(nones, 110)

    def test_the_lesser_claim_as_it_stands(self):
        # (b, c) and (a) are one for pipes; the weight of (b, c) itself is lessened, that of (a) stays.
        claim = (ABC, ((("a",), 1), (("b", "c"), 2)))
        for sort, share in (("pipes", 3), ("hubs", 3), ("leads", 2)):
            number, paper, _ = greatest_share(claim, sort, ("b", "c"))
            self.assertEqual(number, share)
            self.assertIs(is_paper(claim_with(ABC, {("a",): 1, ("b", "c"): 2 - share}), sort, paper), True)
            self.assert_share(claim, sort, ("b", "c"))

    def test_long_weights(self):
        draw = generator(16)
        for at in range(12):
            sort = SORTS[at % 3]
            claim = claim_with(ABCD, {lot: Fraction(draw.randint(1, LONG), draw.randint(1, LONG))
                                      for lot in draw.sample([("a",), ("b",), ("c",), ("a", "b"), ("a", "c")], 3)})
            self.assert_share(claim, sort, draw.choice(all_lots(ABCD)))

    def test_errors(self):
        assert_errors(self, greatest_share, (C, "pipes", ("a",)), [
            (0, BadClaim, NO_CLAIMS), (1, BadSort, NO_SORTS), (2, BadLot, NO_LOTS)])
        for sort, most in (("pipes", 4), ("leads", 4), ("hubs", 3)):
            self.assertEqual(greatest_share(many_greater(most), sort, ("f",))[0], as_number(0))
            assert_raises(self, greatest_share, (many_greater(most + 1), sort, ("f",)), TooMany, most=most)
            assert_raises(self, greatest_share, (many_greater(most + 1), sort, ("g",)), BadLot)
            assert_raises(self, greatest_share, ((NAMES, many_greater(most + 1)[1][:-1] + ((("f",), -1),)), sort, ("g",)),
                          BadLot)
        self.assertIsNone(greatest_share(lot=("a",), sort="hubs", claim=C))


if __name__ == "__main__":
    unittest.main()
