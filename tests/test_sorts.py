import itertools
import time
import unittest

from checking import (NAMES, NO_TAPS, SORTS, all_lots, assert_errors, assert_raises, drawn_claim, drawn_net, error_of, fraction,
                      net_sort, other_taps, plain, slow_walls)
from judging import (ABCD, C, counted_worth, cube_of, drawn_terms, generator, holding_claim, paper_faults, rule_faults,
                     steps_of)
from test_claims import NO_CLAIMS, OTHER_CLAIMS
from test_nets import NO_NETS
from test_widest import NO_WAYS, derivation_fits, slow_worth

from behindtaps.errors import (BadBook, BadClaim, BadGiven, BadNet, BadPaper, BadRealm, BadTaps, BadWay, CrossedLot, NoClaim,
                               TooMany)
from behindtaps.nets import is_net, is_of_sort
from behindtaps.sorts import ClaimBook, led_paper, one_way_net, parting, realms_of
from behindtaps.verdicts import verdict
from behindtaps.widest import widest

AB = ("a", "b")
ABC = ("a", "b", "c")
REALMS = ("pipes", "hubs", "leads", "even", "free")
NO_REALMS = (None, True, 1, "", "pipe", "Free", ["even"], ("even",), {})
FOUR = (ABCD, ((("a",), 1), (("a", "b"), 1), (("b",), 1), (("c",), 1)))
# Three directions for hubs, four for leads.
FOUR_FOR_LEADS = (ABCD, ((("a",), 1), (("a", "b"), 1), (("b",), 1), (("c", "d"), 1)))


def holds_for(claim, realm):
    if realm in SORTS:
        return verdict(claim, realm)[0] == "holds"
    return widest(claim, realm)[0] == "holds"


def one_of_many(at, taps=AB):
    """Unlike claims, one for each whole."""
    return (taps, (((taps[0],), at + 1),))


class RealmsTest(unittest.TestCase):
    def test_the_example(self):
        self.assertEqual(list(realms_of(C).items()),
                         [("pipes", True), ("hubs", False), ("leads", False), ("even", False), ("free", False)])

    def test_drawn_claims(self):
        draw = generator(41)
        seen = {}
        for at in range(160):
            taps = NAMES[:draw.randint(2, 5)]
            if at % 2:
                claim = holding_claim(draw, taps, draw.choice(SORTS), 3)
            else:
                claim = drawn_terms(draw, taps, "leads", draw.randint(0, 3), draw.randint(0, 2))
            if error_of(realms_of, (claim,)):
                continue
            told = realms_of(claim)
            self.assertEqual(list(told.items()), [(realm, holds_for(claim, realm)) for realm in REALMS])
            for less, more in (("free", "even"), ("free", "leads"), ("even", "hubs"), ("leads", "hubs"), ("hubs", "pipes")):
                self.assertTrue(told[more] or not told[less], (claim, less, more))
            seen[tuple(told.values())] = claim
        self.assertGreaterEqual(len(seen), 4)

    def test_each_realm_that_may_differ(self):
        # w(a) - w(b) with two taps: lots and their opposites are one, but for leads and free.
        self.assertEqual(list(realms_of((AB, ((("a",), 1), (("b",), -1)))).values()), [True, True, False, True, False])
        self.assertEqual(list(realms_of((AB, ((("a",), 1),))).values()), [True] * 5)
        self.assertEqual(list(realms_of((AB, ((("a",), -1),))).values()), [False] * 5)
        self.assertEqual(list(realms_of((NAMES[:5], ())).values()), [True] * 5)

    def test_errors(self):
        assert_errors(self, realms_of, (C,), [(0, BadClaim, NO_CLAIMS)])
        assert_raises(self, realms_of, (FOUR,), TooMany, most=3)
        assert_raises(self, realms_of, (FOUR_FOR_LEADS,), TooMany, most=3)
        assert_raises(self, realms_of, ((NAMES, ()),), TooMany, most=5)
        assert_raises(self, realms_of, ((NAMES, tuple((lot, 1) for lot in all_lots(NAMES)[:4])),), TooMany, most=3)
        # Four directions for hubs, none but two for leads after all lots are put together: plain forms count.
        claim = (ABCD, ((("a",), 1), (("a", "b"), 1), (("b",), 1), (("b", "c", "d"), 1), (("c", "d"), 1)))
        assert_raises(self, realms_of, (claim,), TooMany, most=3)
        self.assertEqual(realms_of(claim=(AB, ()))["even"], True)
        self.assertEqual(len(realms_of((ABCD, FOUR[1][:3]))), 5)


class PartingTest(unittest.TestCase):
    def assert_parting(self, claim, realm, other):
        told = parting(claim, realm, other)
        if not holds_for(claim, realm) or holds_for(claim, other):
            self.assertIsNone(told)
            return 0
        self.assertEqual((type(told), len(told)), (tuple, 2))
        shown, breaking = told
        if realm in SORTS:
            self.assertEqual(paper_faults(claim, realm, shown), [])
        else:
            self.assertEqual(shown[1], ())
            self.assertTrue(all(step in steps_of(claim[0], realm) and fraction(weight) > 0 for step, weight in shown[0]))
            self.assertTrue(derivation_fits(claim, realm, shown, ()))
        if other in SORTS:
            self.assertIs(is_net(breaking) and is_of_sort(breaking, other) and breaking[0] == claim[0], True)
            self.assertLess(counted_worth(claim, breaking), 0)
        else:
            self.assertEqual(rule_faults(claim[0], other, breaking), [])
            self.assertLess(slow_worth(claim, other, breaking), 0)
        return 1

    def test_known_ones(self):
        for other in REALMS:
            self.assertEqual(self.assert_parting(C, "pipes", other), other != "pipes")
        self.assertIsNone(parting(C, "hubs", "pipes"))
        turned = (AB, ((("a",), 1), (("b",), -1)))
        for realm in REALMS:
            for other in REALMS:
                self.assertEqual(self.assert_parting(turned, realm, other),
                                 realm in ("pipes", "hubs", "even") and other in ("leads", "free"))

    def test_drawn_claims(self):
        draw = generator(42)
        found = 0
        for at in range(60):
            claim = holding_claim(draw, NAMES[:draw.randint(3, 4)], draw.choice(("pipes", "pipes", "hubs", "leads")), 3)
            if error_of(realms_of, (claim,)) is None:
                for realm, other in itertools.product(REALMS, repeat=2):
                    found += self.assert_parting(claim, realm, other)
        self.assertGreater(found, 15)

    def test_errors(self):
        assert_errors(self, parting, (C, "pipes", "hubs"), [
            (0, BadClaim, NO_CLAIMS), (1, BadRealm, NO_REALMS), (2, BadRealm, NO_REALMS)])
        for claim in (FOUR, FOUR_FOR_LEADS):
            assert_raises(self, parting, (claim, "pipes", "pipes"), TooMany, most=3)
            assert_raises(self, parting, (claim, "pipes", "pipe"), BadRealm)
        assert_raises(self, parting, ((NAMES, ()), "pipes", "hubs"), TooMany, most=5)
        self.assertIsNone(parting(other="hubs", realm="pipes", claim=(AB, ())))


def slow_led_paper(claim, paper):
    """The paper for hubs, as [56] tells it word by word."""
    cube, _ = cube_of(claim, "leads")
    told = [(lot, -fraction(weight), dict(zip(cube.corners, row)))
            for (lot, weight), row in zip([term for term in claim[1] if fraction(term[1]) < 0], paper)]
    plain_cube, targets = cube_of(claim, "hubs")
    rows = []
    for lot, _, _ in targets:
        row = []
        for corner in plain_cube.corners:
            sides = dict(zip(plain_cube.lots, corner))
            x = tuple(sides[plain(claim[0], one)] if plain(claim[0], one) == one else 1 - sides[plain(claim[0], one)]
                      for one in cube.lots)
            parts = [(weight, fraction(numbers[x]) if one == lot else 1 - fraction(numbers[x]))
                     for one, weight, numbers in told if plain(claim[0], one) == lot]
            row.append(sum(weight * number for weight, number in parts) / sum(weight for weight, _ in parts))
        rows.append(tuple(row))
    return tuple(rows)


class LedPaperTest(unittest.TestCase):
    def test_drawn_papers(self):
        draw = generator(43)
        found = 0
        for at in range(240):
            taps = NAMES[:draw.randint(2, 4)]
            claim = holding_claim(draw, taps, "leads", 3)
            if error_of(realms_of, (claim,)) or any(
                    (other_taps(taps, lot), True) in {(one, fraction(more) * fraction(weight) < 0) for one, more in claim[1]}
                    for lot, weight in claim[1]):
                continue
            word, paper = verdict(claim, "leads")
            self.assertEqual(word, "holds")
            told = led_paper(claim, paper)
            self.assertEqual([[fraction(number) for number in row] for row in told],
                             [list(row) for row in slow_led_paper(claim, paper)])
            self.assertEqual(paper_faults(claim, "hubs", told), [])
            self.assertEqual(paper_faults(claim, "pipes", told), [])
            found += any(plain(taps, lot) != lot for lot, _ in claim[1])
        self.assertGreater(found, 60)

    def test_a_lot_and_its_opposite_with_one_sign(self):
        # Three lots, of which (a, b) and (c, d) become one direction.
        claim = (ABCD, ((("a",), -1), (("a", "b"), 1), (("a", "b", "c"), -1), (("a", "c"), 1)))
        word, paper = verdict(claim, "leads")
        self.assertEqual(word, "holds")
        self.assertEqual(paper_faults(claim, "hubs", led_paper(claim, paper)), [])
        claim = (AB, ((("a",), 1), (("b",), 1)))
        self.assertEqual(led_paper(claim, ()), ())

    def test_errors(self):
        claim = (ABC, ((("a",), 1), (("a", "b"), -1), (("b",), 1)))
        paper = verdict(claim, "leads")[1]
        assert_errors(self, led_paper, (claim, paper), [
            (0, BadClaim, NO_CLAIMS), (1, BadPaper, (None, True, 1, [], list(paper), (), paper * 2, ((0, 0, 0, 0),), "ab"))])
        for four in (FOUR, FOUR_FOR_LEADS):
            assert_raises(self, led_paper, (four, None), TooMany, most=3)
            assert_raises(self, led_paper, (four, ()), TooMany, most=3)
        self.assertEqual(len(led_paper(paper=paper, claim=claim)), 1)

    def test_six_taps_are_no_hindrance(self):
        claim = (NAMES, ((("a",), 1), (("a", "b"), -1), (("b",), 1)))
        paper = verdict(claim, "leads")[1]
        self.assertEqual(paper_faults(claim, "hubs", led_paper(claim, paper)), [])

    def test_crossed_lots(self):
        # (b) and (a, c) both have a weight above 0: they are not crossed.
        alike = (ABC, ((("a",), 1), (("a", "b"), -1), (("a", "c"), 1), (("b",), 1)))
        self.assertIsNone(error_of(led_paper, (alike, verdict(alike, "leads")[1])))
        # (a) and its opposite (b, c) have weights of unlike signs.
        right = (ABC, ((("a",), 1), (("b",), 1), (("b", "c"), -1), (("c",), 1)))
        word, paper = verdict(right, "leads")
        self.assertEqual(word, "holds")
        assert_raises(self, led_paper, (right, paper), CrossedLot, lot=("a",))
        assert_raises(self, led_paper, (right, None), BadPaper)
        # Two crossed lots: the least plain one is told.
        two = (ABC, ((("a",), 2), (("a", "b"), -1), (("b",), 2), (("b", "c"), -1), (("c",), 2)))
        word, paper = verdict(two, "leads")
        self.assertEqual(word, "holds")
        assert_raises(self, led_paper, (two, paper), CrossedLot, lot=("a",))
        one = (ABC, ((("a",), 2), (("a", "b"), -1), (("b",), 2), (("c",), 1)))
        assert_raises(self, led_paper, (one, verdict(one, "leads")[1]), CrossedLot, lot=("c",))


class OneWayNetTest(unittest.TestCase):
    def test_drawn_nets(self):
        draw = generator(44)
        for at in range(90):
            net = drawn_net(draw, NAMES[:draw.randint(2, 4)], SORTS[at % 3], 2, 3)
            told = one_way_net(net)
            if net_sort(net) == "leads":
                self.assertEqual(told, net)
                continue
            self.assertIs(is_net(told), True)
            self.assertEqual(told[0], net[0])
            self.assertEqual({part[0] for part in told[1]} | {"lead"}, {"lead"})
            lots = all_lots(net[0])
            self.assertEqual(slow_walls(told, lots), slow_walls(net, lots))
            many = sum(2 if part[0] == "pipe" else 2 * len(part[1]) + 1 for part in net[1])
            self.assertEqual(len(told[1]), many)

    def test_parts(self):
        self.assertEqual(sorted(one_way_net((AB, (("pipe", "a", "b", 3),)))[1]),
                         [("lead", "a", "b", 3), ("lead", "b", "a", 3)])
        taps, parts = one_way_net((AB, (("hub", ("a", "b", "x"), 3),)))
        self.assertEqual((len(parts), {part[-1] for part in parts}), (7, {3}))
        self.assertEqual(one_way_net((AB, ())), (AB, ()))
        # New places have names that no place has.
        named = (("a", "n1"), (("hub", ("a", "n0"), 2), ("hub", ("n0", "n1", "n2"), 3)))
        told = one_way_net(named)
        self.assertEqual(len({place for part in told[1] for place in part[1:3]}), 8)
        self.assertEqual(slow_walls(told, [("a",), ("n1",)]), {("a",): 2, ("n1",): 2})
        mixed = (AB, (("pipe", "a", "b", 1), ("lead", "b", "a", 0)))
        self.assertEqual(one_way_net(net=mixed), mixed)

    def test_errors(self):
        assert_errors(self, one_way_net, ((AB, ()),), [(0, BadNet, NO_NETS)])
        pipe = ("pipe", "a", "b", 1)
        self.assertEqual(len(one_way_net((AB, (pipe,) * 100))[1]), 200)
        assert_raises(self, one_way_net, ((AB, (pipe,) * 101),), TooMany, most=200)
        self.assertEqual(len(one_way_net((AB, (("lead", "a", "b", 1),) * 200))[1]), 200)
        hub = ("hub", ("a", "b"), 1)
        self.assertEqual(len(one_way_net((AB, (hub,) * 19))[1]), 95)
        assert_raises(self, one_way_net, ((AB, (hub,) * 20),), TooMany, most=40)
        assert_raises(self, one_way_net, ((AB, (hub,) * 41),), TooMany, most=200)


class ClaimBookTest(unittest.TestCase):
    def test_put_and_drop(self):
        book = ClaimBook(AB)
        self.assertEqual((book.taps, book.claims(), len(book)), (AB, [], 0))
        self.assertIs(book.put(one_of_many(0)), True)
        self.assertIs(book.put(one_of_many(1)), True)
        self.assertIs(book.put(claim=one_of_many(0)), False)
        self.assertEqual(book.claims(), [one_of_many(0), one_of_many(1)])
        self.assertIsNone(book.drop(one_of_many(0)))
        self.assertEqual(book.claims(), [one_of_many(1)])
        self.assertIs(book.put(one_of_many(0)), True)
        self.assertEqual(book.claims(), [one_of_many(1), one_of_many(0)])
        assert_raises(self, book.drop, (one_of_many(2),), NoClaim)
        self.assertEqual(len(book), 2)

    def test_claims_equal_as_they_stand(self):
        alike = [(AB, ((("a",), 1),)), (AB, ((("b",), 1),)), (AB, ((("a",), 2),))]
        book = ClaimBook(taps=AB, claims=alike + alike[::-1])
        self.assertEqual(book.claims(), alike)
        self.assertEqual(ClaimBook(AB, tuple(alike)).claims(), alike)

    def test_lists_changed_behind_the_call(self):
        claims = [one_of_many(0), one_of_many(1)]
        book = ClaimBook(AB, claims)
        claims.append(one_of_many(2))
        claims[0] = one_of_many(5)
        self.assertEqual(book.claims(), [one_of_many(0), one_of_many(1)])
        told = book.claims()
        told.clear()
        self.assertEqual(len(book), 2)
        other = ClaimBook(AB, [one_of_many(7)])
        both = book.joined(other)
        both.put(one_of_many(8))
        other.put(one_of_many(9))
        book.put(one_of_many(10))
        self.assertEqual(both.claims(), [one_of_many(at) for at in (0, 1, 7, 8)])
        self.assertEqual(len(other), 2)

    def test_a_drawn_row_of_deeds(self):
        draw = generator(45)
        for _ in range(20):
            start = [one_of_many(draw.randint(0, 12)) for _ in range(draw.randint(0, 6))]
            book, told = ClaimBook(AB, start), list(dict.fromkeys(start))
            for _ in range(60):
                claim = one_of_many(draw.randint(0, 34))
                deed = draw.choice(("put", "put", "drop", "joined"))
                if deed == "put" and (claim in told or len(told) < 30):
                    self.assertIs(book.put(claim), claim not in told)
                    told = told if claim in told else told + [claim]
                elif deed == "put":
                    assert_raises(self, book.put, (claim,), TooMany, most=30)
                elif deed == "drop" and claim in told:
                    book.drop(claim)
                    told.remove(claim)
                elif deed == "drop":
                    assert_raises(self, book.drop, (claim,), NoClaim)
                else:
                    other = [one_of_many(draw.randint(0, 34)) for _ in range(3)]
                    both = list(dict.fromkeys(told + other))
                    if len(both) <= 30:
                        joined = book.joined(ClaimBook(AB, other))
                        self.assertEqual(joined.claims(), both)
                        self.assertEqual(joined, ClaimBook(AB, both[::-1]))
                    else:
                        assert_raises(self, book.joined, (ClaimBook(AB, other),), TooMany, most=30)
                self.assertEqual(book.claims(), told)
                self.assertEqual(len(book), len(told))

    def test_equality(self):
        claims = [one_of_many(at) for at in range(4)]
        self.assertEqual(ClaimBook(AB, claims), ClaimBook(AB, claims[::-1]))
        self.assertNotEqual(ClaimBook(AB, claims), ClaimBook(AB, claims[1:]))
        self.assertNotEqual(ClaimBook(AB, claims[:3]), ClaimBook(AB, claims[1:]))
        self.assertNotEqual(ClaimBook(AB), ClaimBook(ABC))
        self.assertEqual(ClaimBook(AB), ClaimBook(AB, []))
        for other in (None, [], claims, AB, 0, "book"):
            self.assertFalse(ClaimBook(AB) == other)
            self.assertFalse(other == ClaimBook(AB))
            self.assertTrue(ClaimBook(AB) != other)
        with self.assertRaises(TypeError):
            iter(ClaimBook(AB))

    def test_holding(self):
        turned = (AB, ((("a",), 1), (("b",), -1)))
        claims = [(AB, ((("a",), -1),)), turned, (AB, ((("b",), 2),))]
        book = ClaimBook(AB, claims)
        for realm in REALMS:
            self.assertEqual(book.holding(realm), [claim for claim in claims if holds_for(claim, realm)])
        four = ClaimBook(ABCD, [C, (ABCD, ((("a",), 1),)), (ABCD, ((("a",), -1),))])
        self.assertEqual(four.holding(realm="pipes"), [C, (ABCD, ((("a",), 1),))])
        self.assertEqual(four.holding("hubs"), [(ABCD, ((("a",), 1),))])
        self.assertEqual(ClaimBook(NAMES).holding("free"), [])

    def test_follows_and_needed(self):
        draw = generator(46)
        left_out = 0
        for at in range(40):
            way = ("even", "free")[at % 2]
            taps = NAMES[:draw.randint(2, 4)]
            claims = list(dict.fromkeys(drawn_claim(draw, taps) for _ in range(draw.randint(0, 6))))
            book = ClaimBook(taps, claims)
            for claim in (*claims[:2], drawn_claim(draw, taps)):
                others = [one for one in claims if one != claim]
                self.assertIs(book.follows(claim, way), widest(claim, way, others)[0] == "holds")
            left = list(claims)
            for claim in claims:
                others = [one for one in left if one != claim]
                if widest(claim, way, others)[0] == "holds":
                    left = others
            self.assertEqual(book.needed(way), left)
            self.assertEqual(book.claims(), claims)
            left_out += len(claims) - len(left)
        self.assertGreater(left_out, 10)

    def test_needed_of_alike_claims(self):
        # Each of the two follows from the other one, so the first is left out and the second stays.
        claims = [(AB, ((("a",), -1),)), (AB, ((("a",), -2),))]
        book = ClaimBook(AB, claims)
        self.assertEqual(book.needed("free"), claims[1:])
        self.assertEqual(book.needed(way="even"), claims[1:])
        self.assertIs(book.follows(claims[0], "even"), True)
        self.assertIs(ClaimBook(AB, claims[:1]).follows(way="even", claim=claims[0]), False)
        self.assertEqual(ClaimBook(AB, [(AB, ())]).needed("even"), [])

    def test_errors(self):
        no_claims = (None, True, 1, "a", {}, [None], [(AB, ()), None], [(ABC, ())], (AB, ()), [[]])
        assert_errors(self, ClaimBook, (AB, [(AB, ())]), [(0, BadTaps, NO_TAPS), (1, BadGiven, no_claims)])
        claims = [one_of_many(at) for at in range(31)]
        self.assertEqual(len(ClaimBook(AB, claims[:30] + claims[:30])), 30)
        assert_raises(self, ClaimBook, (AB, claims), TooMany, most=30)
        assert_raises(self, ClaimBook, (AB, claims + [None]), BadGiven)
        book = ClaimBook(ABC, [(ABC, ())])
        for function in (book.put, book.drop):
            assert_errors(self, function, ((ABC, ()),), [(0, BadClaim, OTHER_CLAIMS)]) if function == book.put else None
            for claim in OTHER_CLAIMS:
                assert_raises(self, function, (claim,), BadClaim)
        assert_errors(self, book.follows, ((ABC, ()), "even"), [(0, BadClaim, OTHER_CLAIMS), (1, BadWay, NO_WAYS)])
        assert_errors(self, book.holding, ("even",), [(0, BadRealm, NO_REALMS)])
        assert_errors(self, book.needed, ("even",), [(0, BadWay, NO_WAYS)])
        assert_errors(self, book.joined, (ClaimBook(ABC),), [(0, BadBook, (None, True, 1, [], [(ABC, ())], ClaimBook(AB)))])
        self.assertEqual(book.joined(other=ClaimBook(ABC)).claims(), [(ABC, ())])
        self.assertEqual(book.claims(), [(ABC, ())])

    def test_limits(self):
        full = ClaimBook(AB, [one_of_many(at) for at in range(30)])
        self.assertIs(full.put(one_of_many(3)), False)
        assert_raises(self, full.put, (one_of_many(30),), TooMany, most=30)
        assert_raises(self, full.put, ((ABC, ()),), BadClaim)
        self.assertEqual(len(full), 30)
        self.assertEqual(len(full.joined(full)), 30)
        assert_raises(self, full.joined, (ClaimBook(AB, [one_of_many(30)]),), TooMany, most=30)
        six = ClaimBook(NAMES, [(NAMES, ())])
        assert_raises(self, six.follows, ((NAMES, ()), "free"), TooMany, most=5)
        assert_raises(self, six.needed, ("free",), TooMany, most=5)
        assert_raises(self, six.holding, ("pipes",), TooMany, most=5)
        self.assertIs(six.follows((NAMES, ()), "even"), True)
        self.assertEqual(six.needed("even"), [])
        wide = ClaimBook(ABCD, [C, FOUR, (ABCD, ())])
        assert_raises(self, wide.holding, ("pipes",), TooMany, most=3)
        assert_raises(self, ClaimBook(NAMES, [(NAMES, tuple((lot, 1) for lot in all_lots(NAMES)[:4])), (NAMES, ())]).holding,
                      ("pipes",), TooMany, most=3)

    def test_slowest_answers(self):
        started = time.process_time()
        draw = generator(47)
        claims = list(dict.fromkeys(drawn_terms(draw, NAMES, "hubs", 3, 3) for _ in range(30)))
        self.assertTrue(set(ClaimBook(NAMES, claims).needed("even")) <= set(claims))
        claims = list(dict.fromkeys(drawn_terms(draw, NAMES[:5], "leads", 3, 3) for _ in range(30)))
        book = ClaimBook(NAMES[:5], claims)
        self.assertTrue(set(book.needed("free")) <= set(claims))
        few = [claim for claim in claims if error_of(realms_of, (claim,)) is None]
        for realm in REALMS:
            self.assertEqual(ClaimBook(NAMES[:5], few).holding(realm), [claim for claim in few if holds_for(claim, realm)])
        self.assertLess(time.process_time() - started, 120)


if __name__ == "__main__":
    unittest.main()
