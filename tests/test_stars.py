import itertools
import random
import unittest
from fractions import Fraction

from checking import (NAMES, NO_NUMBERS, NO_NUMBERS_FROM_0, NO_TAPS, all_lots, as_number, assert_errors, assert_new,
                      assert_raises, drawn_claim, drawn_net, error_of, fraction, keys_of, net_places, part_places)
from test_claims import NO_CLAIMS, OTHER_CLAIMS
from test_nets import EMPTY, HUBS, LEADS, NO_NETS, PIPES

from behindtaps.claims import added, alike_claims, claim_worth, holds, is_claim, multiplied, plain_form
from behindtaps.errors import BadClaim, BadNet, BadTaps, BadWidths, BadWorths
from behindtaps.flows import wall, walls
from behindtaps.nets import is_net, sort_of
from behindtaps.stars import claim_by_stars, even_sets, parting_stars, star_net, star_shares, star_worths

AB = ("a", "b")
ABC = ("a", "b", "c")
ABCD = ("a", "b", "c", "d")
C = (ABCD, ((("a",), -1), (("a", "b"), 1), (("a", "c"), 1), (("a", "d"), 1), (("b",), -1), (("c",), -1), (("d",), -1)))


def evens_of(taps):
    return sorted(even for many in range(2, len(taps) + 1, 2) for even in itertools.combinations(taps, many))


def star_lets(even, lot):
    inside = len(set(even) & set(lot))
    return min(inside, len(even) - inside)


def worths_of(claim):
    return {even: sum((fraction(weight) * star_lets(even, lot) for lot, weight in claim[1]), Fraction(0))
            for even in evens_of(claim[0])}


def drawn_widths(draw, taps):
    evens = evens_of(taps)
    draw.shuffle(evens)
    return {even: as_number(Fraction(draw.randint(0, 9), draw.randint(1, 4))) for even in evens if draw.random() < 0.5}


def can_be_parted(claim, other):
    """What the second HEART sentence of [35] says, with alike claims worked out by shares of worths."""
    some, others = worths_of(claim), worths_of(other)
    if all(worth >= 0 for worth in some.values()) and all(worth >= 0 for worth in others.values()):
        return False
    if all(worth <= 0 for worth in [*some.values(), *others.values()]):
        return {even for even in some if some[even] == 0} != {even for even in others if others[even] == 0}
    return not alike_claims(claim, other, "pipes")


class EvenSetsTest(unittest.TestCase):
    def test_even_sets(self):
        self.assertEqual(even_sets(AB), [AB])
        self.assertEqual(even_sets(ABC), [("a", "b"), ("a", "c"), ("b", "c")])
        self.assertEqual(even_sets(ABCD), [("a", "b"), ABCD, ("a", "c"), ("a", "d"), ("b", "c"), ("b", "d"), ("c", "d")])
        for many in range(2, 7):
            taps = NAMES[:many]
            self.assertEqual(even_sets(taps), evens_of(taps))
            self.assertEqual(len(even_sets(taps)), len(keys_of(taps, "pipes")))

    def test_errors(self):
        assert_errors(self, even_sets, (ABC,), [(0, BadTaps, NO_TAPS)])
        assert_new(self, even_sets, (ABC,))


class StarNetsTest(unittest.TestCase):
    def test_pairs_are_pipes(self):
        self.assertEqual(star_net(ABC, {("b", "c"): (1, 2)}), (ABC, (("pipe", "b", "c", (1, 2)),)))
        self.assertEqual(star_net(ABC, {}), (ABC, ()))
        self.assertEqual(star_net(ABC, {("b", "c"): 0}), (ABC, ()))
        self.assertEqual(star_net(ABCD, {ABCD: 0, ("a", "d"): 1}), (ABCD, (("pipe", "a", "d", 1),)))

    def test_others_have_an_inner_place(self):
        taps, parts = star_net(ABCD, {ABCD: (3, 2)})
        self.assertEqual(taps, ABCD)
        self.assertEqual(sorted(part[-1] for part in parts), [(3, 2)] * 4)
        inner = {place for part in parts for place in part_places(part)} - set(ABCD)
        self.assertEqual(len(inner), 1)
        self.assertEqual(sorted(tuple(sorted({*part_places(part)} - inner)) for part in parts), [(tap,) for tap in ABCD])

    def test_walls_of_one_star(self):
        for many in range(2, 7):
            taps = NAMES[:many]
            for even in evens_of(taps):
                net = star_net(taps, {even: 1})
                for lot in all_lots(taps):
                    self.assertEqual(wall(net, lot), star_lets(even, lot))

    def test_walls_of_many_stars(self):
        draw = random.Random(1)
        for at in range(40):
            taps = NAMES[:2 + at % 5]
            widths = drawn_widths(draw, taps)
            net = star_net(taps, widths)
            self.assertIs(is_net(net), True)
            self.assertEqual(sort_of(net), "pipes")
            stars = [even for even, width in widths.items() if width != 0]
            self.assertEqual(len(net[1]), sum(len(even) if len(even) > 2 else 1 for even in stars))
            self.assertEqual(len(net_places(net)), len(taps) + sum(len(even) > 2 for even in stars))
            for lot in all_lots(taps):
                told = sum((fraction(width) * star_lets(even, lot) for even, width in widths.items()), Fraction(0))
                self.assertEqual(fraction(wall(net, lot)), told)

    def test_all_stars_of_six_taps(self):
        net = star_net(NAMES, {even: 1 for even in evens_of(NAMES)})
        self.assertIs(is_net(net), True)
        self.assertEqual(len(net_places(net)), 6 + 16)
        self.assertEqual(len(net[1]), 15 + 15 * 4 + 6)

    def test_taps_called_like_new_names(self):
        for taps in (("n0", "n1", "n2", "n3"), ("n1", "p", "x", "y"), ("n", "n00", "n15", "n2", "n9", "x0")):
            net = star_net(taps, {even: 1 for even in evens_of(taps)})
            self.assertIs(is_net(net), True)
            for lot in all_lots(taps):
                self.assertEqual(wall(net, lot), sum(star_lets(even, lot) for even in evens_of(taps)))

    def test_errors(self):
        no_widths = (None, True, [], [(AB, 1)], {"a": 1}, {("a",): 1}, {ABC: 1}, {("b", "a"): 1}, {("a", "x"): 1},
                     {AB: 1, ("c", "d"): 1, ("c", "e"): 1}, {(): 1}, {1: 1}, {None: 1}, {"ab": 1},
                     *({AB: width} for width in NO_NUMBERS_FROM_0), {AB: 1, ("c", "d"): -1}, ((AB, 1),))
        assert_errors(self, star_net, (ABCD, {AB: 1}), [(0, BadTaps, NO_TAPS), (1, BadWidths, no_widths)])
        assert_raises(self, star_net, (ABC, {ABCD: 1}), BadWidths)


class SharesTest(unittest.TestCase):
    def test_example(self):
        hub = (ABCD, (("hub", ABCD, 1),))
        self.assertEqual(list(star_shares(hub).items()),
                         [(even, (1, 2) if len(even) == 2 else (-1, 2)) for even in evens_of(ABCD)])

    def test_shares_add_up_to_all_walls(self):
        draw = random.Random(2)
        for at in range(50):
            taps = NAMES[:2 + at % 5]
            net = drawn_net(draw, taps, ("pipes", "hubs")[at % 2], 3, 8)
            shares = star_shares(net)
            self.assertEqual(list(shares), evens_of(taps))
            for lot, told in walls(net).items():
                total = sum((fraction(share) * star_lets(even, lot) for even, share in shares.items()), Fraction(0))
                self.assertEqual(total, fraction(told))

    def test_shares_of_star_nets_are_the_widths(self):
        draw = random.Random(3)
        for at in range(40):
            taps = NAMES[:2 + at % 5]
            widths = drawn_widths(draw, taps)
            self.assertEqual(star_shares(star_net(taps, widths)), {even: widths.get(even, 0) for even in evens_of(taps)})

    def test_shares_of_pipes_with_four_taps_are_from_0_on(self):
        draw = random.Random(4)
        for at in range(60):
            net = drawn_net(draw, NAMES[:2 + at % 3], "pipes", 3, 9, "whole")
            self.assertTrue(all(fraction(share) >= 0 for share in star_shares(net).values()))

    def test_shares_of_five_taps_may_be_below_0(self):
        taps = NAMES[:5]
        net = (taps, (("pipe", "a", "x", 2), *(("pipe", tap, "x", 1) for tap in taps[1:])))
        shares = star_shares(net)
        self.assertTrue(any(fraction(share) < 0 for share in shares.values()))

    def test_errors(self):
        leads = (LEADS, (AB, (("lead", "a", "b", 0),)))
        for net in (PIPES, HUBS):
            assert_errors(self, star_shares, (net,), [(0, BadNet, NO_NETS + leads)])
        assert_new(self, star_shares, (HUBS,))
        self.assertEqual(star_shares(EMPTY), {AB: 0})


class WorthsTest(unittest.TestCase):
    def test_example(self):
        worths = star_worths(C)
        self.assertEqual(list(worths.items()), [(even, 2 if even == ABCD else 0) for even in evens_of(ABCD)])
        self.assertEqual(claim_worth(C, (ABCD, (("hub", ABCD, 1),))), -1)

    def test_worths_are_those_in_the_stars(self):
        draw = random.Random(5)
        for at in range(50):
            taps = NAMES[:2 + at % 5]
            claim = drawn_claim(draw, taps)
            worths = star_worths(claim)
            self.assertEqual(list(worths), evens_of(taps))
            self.assertEqual(worths, {even: claim_worth(claim, star_net(taps, {even: 1})) for even in evens_of(taps)})

    def test_worth_is_the_sum_of_share_times_star_worth(self):
        draw = random.Random(6)
        for at in range(50):
            taps = NAMES[:2 + at % 5]
            net = drawn_net(draw, taps, ("pipes", "hubs")[at % 2], 3, 8)
            claim = drawn_claim(draw, taps)
            shares, worths = star_shares(net), star_worths(claim)
            total = sum((fraction(shares[even]) * fraction(worths[even]) for even in shares), Fraction(0))
            self.assertEqual(fraction(claim_worth(claim, net)), total)

    def test_claim_by_stars(self):
        draw = random.Random(7)
        for at in range(40):
            taps = NAMES[:2 + at % 5]
            claim = drawn_claim(draw, taps)
            self.assertEqual(claim_by_stars(taps, star_worths(claim)), plain_form(claim, "pipes"))
            evens = evens_of(taps)
            draw.shuffle(evens)
            worths = {even: as_number(Fraction(draw.randint(-5, 5), draw.randint(1, 3))) for even in evens}
            told = claim_by_stars(taps, worths)
            self.assertIs(is_claim(told), True)
            self.assertEqual(plain_form(told, "pipes"), told)
            self.assertEqual(star_worths(told), worths)

    def test_simple_claims(self):
        self.assertEqual(claim_by_stars(AB, {AB: 3}), (AB, ((("a",), 3),)))
        self.assertEqual(claim_by_stars(AB, {AB: 0}), (AB, ()))
        self.assertEqual(claim_by_stars(ABC, {("a", "b"): 1, ("a", "c"): 0, ("b", "c"): 0}),
                         (ABC, ((("a",), (1, 2)), (("b",), (1, 2)), (("c",), (-1, 2)))))
        self.assertEqual(claim_by_stars(ABCD, {even: 2 if even == ABCD else 0 for even in evens_of(ABCD)}), C)

    def test_errors(self):
        assert_errors(self, star_worths, (C,), [(0, BadClaim, NO_CLAIMS)])
        assert_new(self, star_worths, (C,))
        right = {("a", "b"): 1, ("a", "c"): -2, ("b", "c"): (1, 2)}
        no_worths = (None, True, [], list(right.items()), {}, {("a", "b"): 1, ("a", "c"): 1}, {**right, ("a",): 1},
                     {**right, ABC: 0}, {("a", "b"): 1, ("a", "c"): 1, ("c", "b"): 1}, {**right, "ab": 1},
                     {("a", "b"): 1, ("a", "c"): 1, ("a",): 1}, {("a", "b"): 1, ("a", "c"): 1, None: 1},
                     *({**right, ("b", "c"): worth} for worth in NO_NUMBERS))
        assert_errors(self, claim_by_stars, (ABC, right), [(0, BadTaps, NO_TAPS), (1, BadWorths, no_worths)])


class PartingTest(unittest.TestCase):
    def check(self, claim, other):
        """Checks the answer, and returns how many stars it has, 0 for None."""
        told = parting_stars(claim, other)
        self.assertIs(told is not None, can_be_parted(claim, other), (claim, other))
        if told is None:
            return 0
        self.assertIn(len(told), (1, 2))
        self.assertEqual(list(told), sorted(told))
        self.assertTrue(all(fraction(width) > 0 for width in told.values()))
        net = star_net(claim[0], told)
        self.assertNotEqual(holds(claim, net), holds(other, net), (claim, other, told))
        return len(told)

    def test_drawn(self):
        draw = random.Random(8)
        seen = {}
        for at in range(200):
            taps = NAMES[:2 + at % 4]
            claim = drawn_claim(draw, taps)
            other = multiplied(claim, draw.choice((1, 3, (1, 2)))) if at % 3 == 0 else drawn_claim(draw, taps)
            if at % 6 == 0:
                other = plain_form(other, "pipes")
            many = self.check(claim, other)
            seen[many] = seen.get(many, 0) + 1
        self.assertGreater(seen[0], 20)
        self.assertGreater(seen[1], 20)

    def test_worths_with_the_same_signs(self):
        draw = random.Random(9)
        seen = {}
        for at in range(200):
            taps = NAMES[:3 + at % 3]
            signs = [draw.choice(((1, 0, -1), (1, 0), (0, -1), (1, -1))[at % 4]) for _ in evens_of(taps)]
            claims = []
            for _ in range(2):
                worths = {even: sign * draw.randint(1, 3) for even, sign in zip(evens_of(taps), signs)}
                claims.append(claim_by_stars(taps, worths))
            many = self.check(*claims)
            seen[many] = seen.get(many, 0) + 1
            self.check(claims[1], claims[0])
        self.assertGreater(seen[0], 30)
        self.assertGreater(seen[2], 30)

    def test_none_where_the_heart_says_so(self):
        for worths, others in (((1, -1, 0), (2, -2, 0)), ((1, 2, 0), (0, 0, 3)), ((-1, -2, 0), (-5, -1, 0)),
                               ((0, 0, 0), (0, 0, 0)), ((0, 0, 0), (1, 0, 2)), ((-1, -1, -1), (-1, -2, -3))):
            claims = [claim_by_stars(ABC, dict(zip(evens_of(ABC), told))) for told in (worths, others)]
            self.assertIsNone(parting_stars(*claims))
            self.assertEqual(self.check(*claims), 0)

    def test_some_where_the_heart_says_so(self):
        for worths, others, many in (((1, -1, 0), (2, -1, 0), 2), ((1, -1, 0), (0, -1, 0), 2), ((0, -1, 0), (0, -1, -1), 1),
                                     ((1, 1, -1), (1, 2, -1), 2), ((1, -1, -1), (1, -1, -2), 2), ((0, 0, 0), (0, -1, 0), 1),
                                     ((1, 0, 0), (-1, 0, 0), 1), ((0, -1, 0), (0, -1, 1), 2)):
            claims = [claim_by_stars(ABC, dict(zip(evens_of(ABC), told))) for told in (worths, others)]
            self.assertEqual(self.check(*claims), many)
            self.assertEqual(self.check(*reversed(claims)), many)

    def test_alike_claims_are_never_parted(self):
        other = added(multiplied(C, (2, 3)), (ABCD, ((("a",), 5), (("b", "c", "d"), -5))))
        self.assertIsNone(parting_stars(C, other))
        self.assertIsNone(parting_stars(multiplied(C, -1), multiplied(other, -3)))

    def test_errors(self):
        claim = (ABC, ((("a",), 1),))
        assert_errors(self, parting_stars, (claim, claim), [(0, BadClaim, NO_CLAIMS), (1, BadClaim, OTHER_CLAIMS)])
        self.assertIsNone(error_of(parting_stars, (claim, (ABC, ()))))

    def test_the_result_is_new(self):
        claims = [(ABC, ((("a",), 1),)), (ABC, ((("b",), -1),))]
        assert_new(self, parting_stars, claims)

    def test_parameters_by_name(self):
        self.assertEqual(even_sets(taps=AB), [AB])
        self.assertEqual(star_net(widths={}, taps=AB), (AB, ()))
        self.assertEqual(star_shares(net=EMPTY), {AB: 0})
        self.assertEqual(star_worths(claim=(AB, ())), {AB: 0})
        self.assertEqual(claim_by_stars(worths={AB: 0}, taps=AB), (AB, ()))
        self.assertIsNone(parting_stars(other=(AB, ()), claim=(AB, ())))


if __name__ == "__main__":
    unittest.main()
