import random
import unittest
from fractions import Fraction

from checking import (LONG, NAMES, NO_NUMBERS, NO_SORTS, NO_TAPS, SORTS, all_lots, as_number, assert_errors,
                      assert_raises, drawn_claim, drawn_net, error_of, fraction, keys_of, plain, plain_weights, slow_walls)
from test_nets import EMPTY, HUBS, LEADS, NO_NETS, PIPES

from behindtaps.claims import (added, alike_claims, claim_of, claim_worth, greater, holds, is_claim, is_sum_or_table,
                               lesser, melted_claim, multiplied, opened_claim, plain_form, renamed_claim, sum_or_table,
                               table_worth, whole_form)
from behindtaps.errors import (BadClaim, BadClaims, BadNet, BadNumber, BadPlaces, BadSort, BadTable, BadTaps, BadTerms,
                               Parted, TooMany)
from behindtaps.flows import wall, walls
from behindtaps.nets import beside, is_of_sort, melted_net, sort_of

AB = ("a", "b")
ABC = ("a", "b", "c")
ABCD = ("a", "b", "c", "d")
CLAIM = (ABC, ((("a",), 1), (("a", "b"), (-1, 2)), (("b", "c"), 3), (("c",), -2)))
EMPTY_CLAIM = (ABC, ())
NO_TERMS_OF_CLAIMS = (None, True, [], [(("a",), 1)], ((("a",), 0),), ((("a",), True),), ((("a",), (2, 4)),),
                      ((("a",), 1), (("a",), 2)), ((("b",), 1), (("a",), 1)), (((), 1),), ((ABC, 1),), ((("d",), 1),),
                      ((["a"], 1),), ([("a",), 1],), ((("a",),),), ((("a",), 1, 1),), (("a", 1),), ((("b", "a"), 1),),
                      ((("a",), None),), (None,), "ab", {}, ((("a",), "1"),), ((("a", "b"), 1), (("a",), 1)), (1,),
                      ((("a",), 1), ()), ((1, ("a",)),))
NO_CLAIMS = (None, True, 1, "claim", (), (ABC,), [ABC, ()], (ABC, (), ()), (ABC, {}), ((), ()), (("a",), ()),
             (("b", "a"), ()), (["a", "b"], ()), (None, ()), {}) + tuple((ABC, terms) for terms in NO_TERMS_OF_CLAIMS)
OTHER_CLAIMS = NO_CLAIMS + ((AB, ()), (("a", "b", "d"), ()))


def claim_with(taps, weights):
    """The claim with these weights, fractions by lot, without zeros."""
    return (taps, tuple((lot, as_number(weights[lot])) for lot in sorted(weights) if weights[lot] != 0))


def drawn_table(draw, taps, sort):
    keys = keys_of(taps, sort)
    draw.shuffle(keys)
    return {lot: as_number(Fraction(draw.randint(-9, 9), draw.randint(1, 4))) for lot in keys}


def worth_by(claim, sort, table):
    return sum((weight * fraction(table[lot]) for lot, weight in plain_weights(claim, sort).items()), Fraction(0))


def drawn_claims(seed, many):
    draw = random.Random(seed)
    for _ in range(many):
        taps = NAMES[:draw.randint(2, 5)]
        yield draw, taps, drawn_claim(draw, taps)


class FormTest(unittest.TestCase):
    def test_is_claim(self):
        for claim in (CLAIM, EMPTY_CLAIM, (AB, ((("a",), 1), (("b",), LONG))), (AB, ((("b",), (-LONG, LONG + 1)),))):
            self.assertIs(is_claim(claim), True, claim)
        for claim in NO_CLAIMS:
            self.assertIs(is_claim(claim), False, claim)
        for taps in NO_TAPS:
            self.assertIs(is_claim((taps, ())), False, taps)
        for weight in NO_NUMBERS + (0,):
            self.assertIs(is_claim((ABC, ((("a",), weight),))), False, weight)
        for _, _, claim in drawn_claims(1, 60):
            self.assertIs(is_claim(claim), True, claim)

    def test_claim_of(self):
        terms = [(("c",), 1), (("a",), 2), (("c",), (1, 2)), (("b",), 3), (("b",), -3), (("a", "b"), 0), (("a",), (-1, 3))]
        told = (ABC, ((("a",), (5, 3)), (("c",), (3, 2))))
        self.assertEqual(claim_of(ABC, terms), told)
        self.assertEqual(claim_of(ABC, tuple(terms)), told)
        self.assertEqual(claim_of(ABC, []), EMPTY_CLAIM)
        self.assertEqual(claim_of(ABC, [(("a",), 1), (("b", "c"), 1)]), (ABC, ((("a",), 1), (("b", "c"), 1))))
        self.assertEqual(claim_of(ABC, [(("b", "c"), (1, 2)), (("b", "c"), (1, 2))]), (ABC, ((("b", "c"), 1),)))
        self.assertEqual(terms[0], (("c",), 1))

    def test_claim_of_drawn_terms(self):
        for draw, taps, _ in drawn_claims(2, 80):
            terms = [(draw.choice(all_lots(taps)), as_number(Fraction(draw.randint(-3, 3), draw.randint(1, 3))))
                     for _ in range(draw.randint(0, 12))]
            told = {}
            for lot, weight in terms:
                told[lot] = told.get(lot, 0) + fraction(weight)
            self.assertEqual(claim_of(taps, terms), claim_with(taps, told))

    def test_claim_of_errors(self):
        no_terms = (None, True, 1, "terms", {}, [1], [None], [()], [(("a",),)], [(("a",), 1, 1)], [[("a",), 1]], [(["a"], 1)],
                    [("a", 1)], [((), 1)], [(ABC, 1)], [(("d",), 1)], [(("b", "a"), 1)], [(("a",), True)], [(("a",), None)],
                    [(("a",), (2, 4))], [(("a",), 1), None], [(("a",), 1), (("a",), "1")])
        assert_errors(self, claim_of, (ABC, [(("a",), 1)]), [(0, BadTaps, NO_TAPS), (1, BadTerms, no_terms)])

    def test_greater_and_lesser(self):
        self.assertEqual(greater(CLAIM), ((("a",), 1), (("b", "c"), 3)))
        self.assertEqual(lesser(CLAIM), ((("a", "b"), (1, 2)), (("c",), 2)))
        self.assertEqual((greater(EMPTY_CLAIM), lesser(EMPTY_CLAIM)), ((), ()))
        for function in (greater, lesser):
            assert_errors(self, function, (CLAIM,), [(0, BadClaim, NO_CLAIMS)])

    def test_plain_form(self):
        for sort in ("pipes", "hubs"):
            self.assertEqual(plain_form(CLAIM, sort), (ABC, ((("a",), 4), (("c",), (-5, 2)))))
            self.assertEqual(plain_form((ABC, ((("a",), 1), (("b", "c"), -1))), sort), EMPTY_CLAIM)
            self.assertEqual(plain_form((ABCD, ((("b", "c"), 1), (("c", "d"), 2))), sort),
                             (ABCD, ((("a", "b"), 2), (("a", "d"), 1))))
        self.assertEqual(plain_form(CLAIM, "leads"), CLAIM)
        for _, taps, claim in drawn_claims(3, 80):
            for sort in SORTS:
                told = claim_with(taps, plain_weights(claim, sort))
                self.assertEqual(plain_form(claim, sort), told)
                self.assertEqual(plain_form(told, sort), told)

    def test_whole_form(self):
        self.assertEqual(whole_form(CLAIM, "pipes"), (ABC, ((("a",), 8), (("c",), -5))))
        self.assertEqual(whole_form(CLAIM, "leads"), (ABC, ((("a",), 2), (("a", "b"), -1), (("b", "c"), 6), (("c",), -4))))
        self.assertEqual(whole_form(EMPTY_CLAIM, "hubs"), EMPTY_CLAIM)
        self.assertEqual(whole_form((ABC, ((("a",), 1), (("b", "c"), -1))), "pipes"), EMPTY_CLAIM)
        self.assertEqual(whole_form((ABC, ((("a",), (-4, 3)), (("b",), (2, 9)))), "hubs"), (ABC, ((("a",), -6), (("b",), 1))))
        self.assertEqual(whole_form((ABC, ((("a",), -6), (("b",), 4))), "pipes"), (ABC, ((("a",), -3), (("b",), 2))))
        self.assertEqual(whole_form((ABC, ((("a",), (-6, 7)),)), "pipes"), (ABC, ((("a",), -1),)))

    def test_alike_claims(self):
        one = (ABC, ((("a",), 2), (("b", "c"), (1, 2)), (("c",), -1)))
        other = (ABC, ((("a", "b"), -2), (("b", "c"), 5)))
        self.assertIs(alike_claims(one, other, "pipes"), True)
        self.assertIs(alike_claims(one, other, "hubs"), True)
        self.assertIs(alike_claims(one, other, "leads"), False)
        self.assertIs(alike_claims(one, multiplied(one, (7, 3)), "leads"), True)
        self.assertIs(alike_claims(one, multiplied(one, -1), "pipes"), False)
        self.assertIs(alike_claims(one, EMPTY_CLAIM, "pipes"), False)
        self.assertIs(alike_claims((ABC, ((("a",), 1), (("b", "c"), -1))), EMPTY_CLAIM, "pipes"), True)
        for draw, _, claim in drawn_claims(4, 60):
            for sort in SORTS:
                factor = as_number(Fraction(draw.randint(1, 9), draw.randint(1, 9)))
                self.assertIs(alike_claims(claim, plain_form(multiplied(claim, factor), sort), sort), True)

    def test_form_errors(self):
        for function in (plain_form, whole_form):
            assert_errors(self, function, (CLAIM, "hubs"), [(0, BadClaim, NO_CLAIMS), (1, BadSort, NO_SORTS)])
        assert_errors(self, alike_claims, (CLAIM, EMPTY_CLAIM, "pipes"),
                      [(0, BadClaim, NO_CLAIMS), (1, BadClaim, OTHER_CLAIMS), (2, BadSort, NO_SORTS)])


class WorthTest(unittest.TestCase):
    def test_examples(self):
        self.assertEqual(claim_worth(CLAIM, PIPES), as_number(Fraction(3, 2) + Fraction(9, 2)))
        self.assertEqual(claim_worth((ABC, ((("b",), 1), (("c",), -1))), LEADS), 1)
        self.assertEqual(claim_worth((ABC, ((("b",), (1, 2)), (("c",), -1))), HUBS), (-1, 3))
        self.assertEqual(claim_worth(EMPTY_CLAIM, HUBS), 0)
        self.assertIs(holds((ABC, ((("b",), (1, 2)), (("c",), -1))), HUBS), False)
        self.assertIs(holds((ABC, ((("b",), (2, 3)), (("c",), -1))), HUBS), True)
        self.assertIs(holds((ABC, ((("b",), 1), (("c",), -1))), LEADS), True)
        self.assertIs(holds(EMPTY_CLAIM, PIPES), True)

    def test_drawn(self):
        for draw, taps, claim in drawn_claims(5, 120):
            net = drawn_net(draw, taps, draw.choice(SORTS), 2, 6)
            told = slow_walls(net, all_lots(taps))
            worth = sum((fraction(weight) * fraction(told[lot]) for lot, weight in claim[1]), Fraction(0))
            self.assertEqual(claim_worth(claim, net), as_number(worth))
            self.assertIs(holds(claim, net), worth >= 0)
            self.assertEqual(table_worth(claim, sort_of(net), walls(net)), as_number(worth))
            if is_of_sort(net, "leads"):
                self.assertEqual(table_worth(claim, "leads", {lot: wall(net, lot) for lot in all_lots(taps)}), as_number(worth))

    def test_table_worth(self):
        table = {("c",): (1, 2), ("a",): -3, ("b",): 100}
        for sort in ("pipes", "hubs"):
            self.assertEqual(table_worth(CLAIM, sort, table), as_number(Fraction(-12) - Fraction(5, 4)))
        table = {lot: at for at, lot in enumerate(reversed(all_lots(ABC)))}
        self.assertEqual(table_worth(CLAIM, "leads", table), 5 - 2 + 3)
        self.assertEqual(list(table), list(reversed(all_lots(ABC))))
        for draw, taps, claim in drawn_claims(6, 80):
            for sort in SORTS:
                table = drawn_table(draw, taps, sort)
                self.assertEqual(table_worth(claim, sort, table), as_number(worth_by(claim, sort, table)))

    def test_worth_errors(self):
        no_nets = NO_NETS + (EMPTY, (("a", "b", "d"), ()), (ABCD, ()))
        for function in (claim_worth, holds):
            assert_errors(self, function, (CLAIM, HUBS), [(0, BadClaim, NO_CLAIMS), (1, BadNet, no_nets)])
        right = {("a",): 1, ("b",): 2, ("c",): 3}
        no_tables = (None, True, [], [(("a",), 1)], {}, {("a",): 1, ("b",): 2}, {**right, ("a", "b"): 1}, {**right, "a": 1},
                     {**right, ("c",): True}, {**right, ("c",): None}, {**right, ("c",): (2, 4)}, {**right, ("c",): "1"},
                     {("a",): 1, ("b",): 2, ("a", "b"): 3}, {("a",): 1, ("b",): 2, "c": 3}, {("a",): 1, ("b",): 2, None: 3},
                     tuple(right.items()), {**right, ("c",): [1]}, {("b", "c"): 1, ("a", "c"): 1, ("a", "b"): 1},
                     {lot: 1 for lot in all_lots(ABC)})
        assert_errors(self, table_worth, (CLAIM, "pipes", right),
                      [(0, BadClaim, NO_CLAIMS), (1, BadSort, NO_SORTS), (2, BadTable, no_tables)])
        assert_raises(self, table_worth, (CLAIM, "leads", right), BadTable)
        self.assertIsNone(error_of(table_worth, (CLAIM, "leads", {lot: 1 for lot in all_lots(ABC)})))

    def test_added_and_multiplied(self):
        other = (ABC, ((("a",), -1), (("a", "b"), (1, 3)), (("b",), 1)))
        told = (ABC, ((("a", "b"), (-1, 6)), (("b",), 1), (("b", "c"), 3), (("c",), -2)))
        self.assertEqual(added(CLAIM, other), told)
        self.assertEqual(added(CLAIM, EMPTY_CLAIM), CLAIM)
        self.assertEqual(added(CLAIM, multiplied(CLAIM, -1)), EMPTY_CLAIM)
        self.assertEqual(multiplied(CLAIM, 0), EMPTY_CLAIM)
        self.assertEqual(multiplied(CLAIM, (2, 3)), (ABC, ((("a",), (2, 3)), (("a", "b"), (-1, 3)), (("b", "c"), 2),
                                                          (("c",), (-4, 3)))))
        self.assertEqual(multiplied(CLAIM, -2), (ABC, ((("a",), -2), (("a", "b"), 1), (("b", "c"), -6), (("c",), 4))))

    def test_worth_of_sums(self):
        for draw, taps, claim in drawn_claims(7, 60):
            other = drawn_claim(draw, taps)
            nets = [drawn_net(draw, taps, "hubs", 2, 5, "whole"), drawn_net(draw, taps, "hubs", 1, 5, "fraction")]
            for net in nets:
                told = fraction(claim_worth(claim, net)) + fraction(claim_worth(other, net))
                self.assertEqual(fraction(claim_worth(added(claim, other), net)), told)
                told = fraction(claim_worth(claim, net)) * Fraction(-5, 3)
                self.assertEqual(fraction(claim_worth(multiplied(claim, (-5, 3)), net)), told)
            told = sum(fraction(claim_worth(claim, net)) for net in nets)
            self.assertEqual(fraction(claim_worth(claim, beside(*nets))), told)

    def test_sum_errors(self):
        assert_errors(self, added, (CLAIM, EMPTY_CLAIM), [(0, BadClaim, NO_CLAIMS), (1, BadClaim, OTHER_CLAIMS)])
        assert_errors(self, multiplied, (CLAIM, 2), [(0, BadClaim, NO_CLAIMS), (1, BadNumber, NO_NUMBERS)])

    def test_renamed_claim(self):
        told = (("a", "b", "x"), ((("a", "b"), 3), (("a", "x"), (-1, 2)), (("b",), -2), (("x",), 1)))
        self.assertEqual(renamed_claim(CLAIM, {"a": "x", "b": "a", "c": "b"}), told)
        self.assertEqual(renamed_claim(CLAIM, {"c": "c", "b": "b", "a": "a"}), CLAIM)
        self.assertEqual(renamed_claim(CLAIM, {"a": "b", "b": "a", "c": "c"}),
                         (ABC, ((("a", "b"), (-1, 2)), (("a", "c"), 3), (("b",), 1), (("c",), -2))))
        right = {"a": "x", "b": "y", "c": "z"}
        no_names = (None, True, [], [("a", "x")], {}, {"a": "x", "b": "y"}, {**right, "d": "w"}, {**right, "c": "x"},
                    {**right, "c": "C"}, {**right, "c": None}, {**right, "c": ["z"]}, {"a": "x", "b": "y", "d": "z"},
                    {**right, "c": 1}, {**right, 1: "q"}, tuple(right.items()), {**right, "c": ""}, {**right, "d": "z"},
                    {**right, "c": "abcdefghi"})
        assert_errors(self, renamed_claim, (CLAIM, right), [(0, BadClaim, NO_CLAIMS), (1, BadTaps, no_names)])


class SumOrTableTest(unittest.TestCase):
    def fits(self, claims, claim, sort, value):
        """Whether the pair is as [33] tells, worked out here."""
        word, shown = value
        if word == "sum":
            if type(shown) is not tuple or len(shown) != len(claims) or any(fraction(one) < 0 for one in shown):
                return False
            total = {}
            for weight, given in zip(shown, claims):
                for lot, part in plain_weights(given, sort).items():
                    total[lot] = total.get(lot, 0) + part * fraction(weight)
            return {lot: weight for lot, weight in total.items() if weight != 0} == plain_weights(claim, sort)
        if word != "table" or list(shown) != keys_of(claim[0], sort):
            return False
        return all(worth_by(one, sort, shown) >= 0 for one in claims) and worth_by(claim, sort, shown) < 0

    def drawn_tasks(self, seed, many):
        for draw, taps, claim in drawn_claims(seed, many):
            claims = [drawn_claim(draw, taps) for _ in range(draw.randint(0, 6))]
            if draw.random() < 0.6:
                claim = (taps, ())
                for given in claims:
                    claim = added(claim, multiplied(given, as_number(Fraction(draw.randint(0, 4), draw.randint(1, 3)))))
            yield draw, claims, claim, draw.choice(SORTS)

    def test_drawn(self):
        words = {}
        for draw, claims, claim, sort in self.drawn_tasks(8, 150):
            value = sum_or_table(claims, claim, sort)
            self.assertTrue(self.fits(claims, claim, sort, value), (claims, claim, sort, value))
            self.assertIs(is_sum_or_table(claims, claim, sort, value), True)
            words[value[0]] = words.get(value[0], 0) + 1
            if value[0] == "sum":
                for _ in range(5):
                    table = drawn_table(draw, claim[0], sort)
                    self.assertIs(is_sum_or_table(claims, claim, sort, ("table", table)), False)
            else:
                for weights in ((0,) * len(claims), (1,) * len(claims)):
                    self.assertIs(is_sum_or_table(claims, claim, sort, ("sum", weights)), False)
        self.assertGreater(min(words.values()), 30, words)

    def test_by_plain_forms(self):
        claims = [(ABC, ((("b", "c"), 1),)), (ABC, ((("a", "c"), 1), (("b",), 1)))]
        claim = (ABC, ((("a",), 3), (("b",), 1)))
        for sort in ("pipes", "hubs"):
            self.assertEqual(sum_or_table(claims, claim, sort), ("sum", (3, (1, 2))))
        self.assertEqual(sum_or_table(claims, claim, "leads")[0], "table")

    def test_no_claims(self):
        for claims in ([], ()):
            self.assertEqual(sum_or_table(claims, EMPTY_CLAIM, "leads"), ("sum", ()))
            value = sum_or_table(claims, CLAIM, "pipes")
            self.assertEqual(value[0], "table")
            self.assertTrue(self.fits([], CLAIM, "pipes", value))
            self.assertIs(is_sum_or_table(claims, EMPTY_CLAIM, "pipes", ("sum", ())), True)
            self.assertIs(is_sum_or_table(claims, CLAIM, "pipes", ("sum", ())), False)

    def test_twenty_claims_with_six_taps(self):
        draw = random.Random(9)
        claims = [drawn_claim(draw, NAMES, "whole") for _ in range(20)]
        for sort in SORTS:
            claim = (NAMES, ())
            for given in claims[:9]:
                claim = added(claim, given)
            for goal in (claim, added(claim, (NAMES, ((("a",), -1000),)))):
                value = sum_or_table(claims, goal, sort)
                self.assertTrue(self.fits(claims, goal, sort, value))
                self.assertIs(is_sum_or_table(claims, goal, sort, value), True)
            self.assertEqual(sum_or_table(claims, claim, sort)[0], "sum")

    def test_a_sum_holds_where_all_claims_hold(self):
        for draw, claims, claim, sort in self.drawn_tasks(10, 60):
            if sum_or_table(claims, claim, sort)[0] == "sum":
                net = drawn_net(draw, claim[0], sort, 2, 5, "whole")
                if all(holds(given, net) for given in claims):
                    self.assertIs(holds(claim, net), True)

    def test_judged(self):
        claims = [(AB, ((("a",), 1),)), (AB, ((("b",), 2),))]
        claim = (AB, ((("a",), 4),))
        for weights in ((4, 0), (0, 2), (2, 1), ((1, 2), (7, 4))):
            self.assertIs(is_sum_or_table(claims, claim, "pipes", ("sum", weights)), True, weights)
        for weights in ((4,), (4, 0, 0), (6, -1), (-2, 3), (4, 1), (0, 0), [4, 0], (True, (3, 2)), (4, False), (4, None),
                        ((8, 2), 0), None, 4, {}, ("4", 0), ()):
            self.assertIs(is_sum_or_table(claims, claim, "pipes", ("sum", weights)), False, weights)
        lone = (AB, ((("a",), 1), (("b",), -1)))
        for table in ({("a",): -1, ("b",): 0}, {("b",): 0, ("a",): (-1, 2)}):
            self.assertIs(is_sum_or_table([(AB, ((("b",), 1),))], claim, "leads", ("table", table)), True, table)
        for table in ({("a",): 0, ("b",): 0}, {("a",): -1, ("b",): -1}, {("a",): -1}, {("a",): -1, ("b",): 0, AB: 0}, {},
                      {("a",): True, ("b",): 0}, {("a",): -1, ("b",): False}, [(("a",), -1), (("b",), 0)], None,
                      {("a",): -1, ("b",): (0, 1)}, {("a",): -1, "b": 0}, {("a",): 1, ("b",): 0}):
            self.assertIs(is_sum_or_table([(AB, ((("b",), 1),))], claim, "leads", ("table", table)), False, table)
        self.assertIs(is_sum_or_table([lone], claim, "pipes", ("table", {("a",): -1})), True)
        for word in ("Table", "sum", "tables", "", None, 1, ("table",)):
            self.assertIs(is_sum_or_table([lone], claim, "pipes", (word, {("a",): -1})), False)
        for word in ("Sum", "table", "", None, 1, ("sum",)):
            self.assertIs(is_sum_or_table(claims, claim, "pipes", (word, (4, 0))), False)
        for value in (None, (), ("sum",), ("sum", (4, 0), 0), ["sum", (4, 0)], ("Sum", (4, 0)), (None, (4, 0)), "sum",
                      ("table", (4, 0)), ("sum", {("a",): -1}), True, 1, {}, (("sum",), (4, 0))):
            self.assertIs(is_sum_or_table(claims, claim, "pipes", value), False, value)

    def test_errors(self):
        no_claims = (None, True, 1, "claims", {}, CLAIM, [None], [CLAIM, None], [CLAIM, (AB, ())], [EMPTY_CLAIM] * 21,
                     ((AB, ()), EMPTY_CLAIM), [list(CLAIM)], [EMPTY_CLAIM, (ABC, ((("a",), 0),))])
        wrong = [(0, BadClaims, no_claims), (1, BadClaim, OTHER_CLAIMS), (2, BadSort, NO_SORTS)]
        assert_errors(self, sum_or_table, ([CLAIM, EMPTY_CLAIM], CLAIM, "pipes"), wrong)
        assert_errors(self, is_sum_or_table, ([CLAIM, EMPTY_CLAIM], CLAIM, "pipes", None), wrong)
        assert_errors(self, sum_or_table, ([], CLAIM, "pipes"), [(1, BadClaim, NO_CLAIMS), (2, BadSort, NO_SORTS)])
        assert_errors(self, sum_or_table, ([CLAIM], CLAIM, "pipes"), [(1, BadClaim, OTHER_CLAIMS), (2, BadSort, NO_SORTS)])
        assert_raises(self, sum_or_table, ([(AB, ())], CLAIM, "pipes"), BadClaim)
        self.assertIsNone(error_of(sum_or_table, ([EMPTY_CLAIM] * 20, CLAIM, "hubs")))

    def test_the_table_is_new(self):
        value = sum_or_table([], CLAIM, "pipes")
        kept = dict(value[1])
        value[1].clear()
        self.assertEqual(sum_or_table([], CLAIM, "pipes")[1], kept)


class MeltedTest(unittest.TestCase):
    def test_examples(self):
        claim = (ABC, ((("a",), 1), (("a", "b"), -1), (("c",), 2)))
        told = (("a", "a1", "b", "c"), ((("a", "a1"), 1), (("a", "a1", "b"), -1), (("c",), 2)))
        self.assertEqual(opened_claim(claim, "a", "a1"), told)
        self.assertEqual(melted_claim(told, "a", "a1"), claim)

    def test_terms_are_put_in_order(self):
        claim = (("b", "c"), ((("b",), 1), (("c",), 2)))
        self.assertEqual(opened_claim(claim, "c", "a"), (("a", "b", "c"), ((("a", "c"), 2), (("b",), 1))))
        self.assertEqual(melted_claim((("a", "b", "c"), ((("a", "c"), 2), (("b",), 1))), "c", "a"), claim)
        claim = (("a", "b", "c"), ((("a", "c"), 2), (("b",), 1)))
        self.assertEqual(melted_claim(claim, "a", "c"), (("a", "b"), ((("a",), 2), (("b",), 1))))

    def test_there_and_back(self):
        for draw, taps, claim in drawn_claims(11, 100):
            one = draw.choice(taps)
            new = draw.choice(("a0", "c5", "zz", "bb"))
            opened = opened_claim(claim, one, new)
            self.assertIs(is_claim(opened), True)
            self.assertEqual(opened[0], tuple(sorted([*taps, new])))
            self.assertEqual(melted_claim(opened, one, new), claim)
            for lot, _ in opened[1]:
                self.assertEqual(one in lot, new in lot)

    def test_worth(self):
        for draw, taps, claim in drawn_claims(12, 80):
            one = draw.choice(taps)
            net = drawn_net(draw, tuple(sorted([*taps, "bb"])), draw.choice(SORTS), 2, 7)
            self.assertEqual(claim_worth(opened_claim(claim, one, "bb"), net), claim_worth(claim, melted_net(net, one, "bb")))

    def test_parted(self):
        claim = (ABCD, ((("a", "b"), 1), (("a", "c"), 1), (("a", "d"), 1), (("d",), 1)))
        assert_raises(self, melted_claim, (claim, "a", "b"), Parted, lot=("a", "c"))
        assert_raises(self, melted_claim, (claim, "c", "d"), Parted, lot=("a", "c"))
        assert_raises(self, melted_claim, (claim, "a", "d"), Parted, lot=("a", "b"))
        assert_raises(self, melted_claim, (claim, "d", "b"), Parted, lot=("a", "b"))
        self.assertEqual(melted_claim((ABCD, claim[1][:1]), "c", "d"), (ABC, claim[1][:1]))

    def test_opened_errors(self):
        no_taps = (None, True, 1, "x", "", ["a"], ("a",), {})
        no_new = (None, True, 1, "a", "b", "c", "", "A", ["x"], ("x",), "abcdefghi", "1")
        assert_errors(self, opened_claim, (CLAIM, "a", "x"),
                      [(0, BadClaim, NO_CLAIMS), (1, BadPlaces, no_taps), (2, BadPlaces, no_new)])
        six = (NAMES, ((("a",), 1),))
        assert_raises(self, opened_claim, (six, "a", "x"), TooMany, most=6)
        assert_raises(self, opened_claim, (six, "x", "y"), BadPlaces)
        assert_raises(self, opened_claim, (six, "a", "b"), BadPlaces)
        self.assertEqual(len(opened_claim((NAMES[:5], ()), "a", "f")[0]), 6)

    def test_melted_errors(self):
        no_taps = (None, True, 1, "x", "", ["a"], ("a",), {})
        whole = (ABC, ((("a", "b"), 1), (("c",), 1)))
        assert_errors(self, melted_claim, (whole, "a", "b"),
                      [(0, BadClaim, NO_CLAIMS), (1, BadPlaces, no_taps), (2, BadPlaces, no_taps)])
        assert_raises(self, melted_claim, (whole, "a", "a"), BadPlaces)
        assert_raises(self, melted_claim, ((AB, ()), "a", "b"), BadPlaces)
        assert_raises(self, melted_claim, ((AB, ((("a",), 1),)), "a", "b"), BadPlaces)

    def test_parameters_by_name(self):
        self.assertIs(is_claim(value=CLAIM), True)
        self.assertEqual(claim_of(terms=[], taps=ABC), EMPTY_CLAIM)
        self.assertEqual((greater(claim=EMPTY_CLAIM), lesser(claim=EMPTY_CLAIM)), ((), ()))
        self.assertEqual(plain_form(sort="leads", claim=CLAIM), CLAIM)
        self.assertEqual(whole_form(sort="leads", claim=EMPTY_CLAIM), EMPTY_CLAIM)
        self.assertIs(alike_claims(sort="leads", other=CLAIM, claim=CLAIM), True)
        self.assertEqual(claim_worth(net=HUBS, claim=EMPTY_CLAIM), 0)
        self.assertIs(holds(net=HUBS, claim=EMPTY_CLAIM), True)
        self.assertEqual(table_worth(table={("a",): 1}, sort="pipes", claim=(AB, ())), 0)
        self.assertEqual(added(other=CLAIM, claim=EMPTY_CLAIM), CLAIM)
        self.assertEqual(multiplied(factor=1, claim=CLAIM), CLAIM)
        self.assertEqual(renamed_claim(names={"a": "c", "b": "d"}, claim=(AB, ())), (("c", "d"), ()))
        self.assertEqual(sum_or_table(sort="pipes", claim=EMPTY_CLAIM, claims=[]), ("sum", ()))
        self.assertIs(is_sum_or_table(value=None, sort="pipes", claim=EMPTY_CLAIM, claims=[]), False)
        self.assertEqual(opened_claim(new="d", one="a", claim=EMPTY_CLAIM), (ABCD, ()))
        self.assertEqual(melted_claim(other="c", one="a", claim=EMPTY_CLAIM), (AB, ()))

    def test_helpers_of_these_tests(self):
        self.assertEqual(plain(ABC, ("b", "c")), ("a",))


if __name__ == "__main__":
    unittest.main()
