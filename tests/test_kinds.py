import itertools
import unittest
from fractions import Fraction

from checking import (LONG, NAMES, NO_NUMBERS, NO_SORTS, NO_TAPS, SORTS, all_lots, as_number, assert_errors, assert_raises,
                      drawn_net, error_of, fraction, keys_of, net_sort, other_taps, plain, slow_walls)
from judging import ABCD, C, claim_with, counted_worth, drawn_terms, generator, least_over_sides
from test_claims import NO_CLAIMS

from behindtaps.claims import is_claim, plain_form
from behindtaps.errors import BadClaim, BadSort, BadTable, BadTaps, TooMany
from behindtaps.inequalities import solved
from behindtaps.kinds import checks, first_failed, is_table, kinds, reached, verdict_by_kinds
from behindtaps.nets import inner_of, is_net, is_of_sort
from behindtaps.verdicts import verdict

AB = ("a", "b")
ABC = ("a", "b", "c")
ABCDE = ("a", "b", "c", "d", "e")
REACH = {"pipes": 5, "hubs": 4, "leads": 3}
WITHIN = [(NAMES[:many], sort) for sort in SORTS for many in range(2, REACH[sort] + 1)]


def shape(net):
    """A net with its inner place called x, its parts in order."""
    inner = inner_of(net)
    assert len(inner) <= 1
    parts = []
    for part in net[1]:
        if part[0] == "hub":
            parts.append(part)
            continue
        ends = ["x" if place in inner else place for place in part[1:3]]
        parts.append((part[0], *(ends if part[0] == "lead" else sorted(ends)), part[3]))
    return sorted(parts, key=repr)


def table_of(net, sort):
    return {lot: as_number(least_over_sides(net, lot, other_taps(net[0], lot))) for lot in keys_of(net[0], sort)}


def worth_by(claim, sort, table):
    return sum((fraction(weight) * fraction(table[lot if sort == "leads" else plain(claim[0], lot)])
                for lot, weight in claim[1]), Fraction(0))


class KindsTest(unittest.TestCase):
    def test_pipes(self):
        self.assertEqual(kinds(AB, "pipes"), ((AB, (("pipe", "a", "b", 1),)),))
        self.assertEqual(kinds(ABC, "pipes"), tuple((ABC, (("pipe", *pair, 1),)) for pair in
                                                    (("a", "b"), ("a", "c"), ("b", "c"))))
        straight = [[("pipe", *pair, 1)] for pair in itertools.combinations(ABCD, 2)]
        cross = sorted((("pipe", tap, "x", 1) for tap in ABCD), key=repr)
        self.assertEqual([shape(kind) for kind in kinds(ABCD, "pipes")], straight + [cross])
        told = [shape(kind) for kind in kinds(ABCDE, "pipes")]
        self.assertEqual(told[:10], [[("pipe", *pair, 1)] for pair in itertools.combinations(ABCDE, 2)])
        self.assertEqual(told[10:15], [[("pipe", tap, "x", 1) for tap in four] for four in itertools.combinations(ABCDE, 4)])
        self.assertEqual(told[15:], [[("pipe", tap, "x", 2 if tap == middle else 1) for tap in ABCDE] for middle in ABCDE])

    def test_hubs(self):
        for taps in (AB, ABC):
            self.assertEqual(kinds(taps, "hubs"), kinds(taps, "pipes"))
        self.assertEqual(kinds(ABCD, "hubs")[:7], kinds(ABCD, "pipes"))
        self.assertEqual(kinds(ABCD, "hubs")[7:], ((ABCD, (("hub", ABCD, 1),)),))

    def test_leads(self):
        self.assertEqual(kinds(AB, "leads"), ((AB, (("lead", "a", "b", 1),)), (AB, (("lead", "b", "a", 1),))))
        told = [shape(kind) for kind in kinds(ABC, "leads")]
        self.assertEqual(told[:6], [[("lead", *pair, 1)] for pair in itertools.permutations(ABC, 2)])
        for at, tap in enumerate(ABC):
            others = other_taps(ABC, (tap,))
            self.assertEqual(told[6 + at], sorted([("lead", tap, "x", 1)] + [("lead", "x", other, 1) for other in others]))
            self.assertEqual(told[9 + at], sorted([("lead", "x", tap, 1)] + [("lead", other, "x", 1) for other in others]))
        self.assertEqual(len(told), 12)

    def test_they_are_nets_of_the_sort(self):
        for taps, sort in WITHIN + [(("n0", "n1", "n2"), "leads"), (("n0", "n1", "n2", "n3"), "hubs")]:
            for kind in kinds(taps, sort):
                self.assertIs(is_net(kind) and is_of_sort(kind, sort), True)
                self.assertEqual(kind[0], taps)

    def test_errors(self):
        assert_errors(self, kinds, (ABC, "leads"), [(0, BadTaps, NO_TAPS), (1, BadSort, NO_SORTS)])
        assert_errors(self, checks, (ABC, "leads"), [(0, BadTaps, NO_TAPS), (1, BadSort, NO_SORTS)])
        for function in (kinds, checks):
            for sort in SORTS:
                self.assertIsNone(error_of(function, (NAMES[:REACH[sort]], sort)))
                for many in range(REACH[sort] + 1, 7):
                    assert_raises(self, function, (NAMES[:many], sort), TooMany, most=REACH[sort])
        self.assertEqual(len(kinds(sort="pipes", taps=AB)), 1)
        self.assertEqual(len(checks(sort="leads", taps=AB)), 2)


def slow_checks(taps, sort):
    """The checks as [72] tells them, dicts by lots as they stand."""
    if len(taps) == 2:
        return [{lot: 1} for lot in keys_of(taps, sort)]
    pairs = list(itertools.combinations(taps, 2))

    def summed(plus, minus):
        weights = {}
        for lot, side in [(lot, 1) for lot in plus] + [(lot, -1) for lot in minus]:
            key = tuple(sorted(lot))
            weights[key] = weights.get(key, 0) + side
        return weights
    found = [{lot: 1} for lot in all_lots(taps)] if sort == "leads" else []
    found += [summed([(x,), (y,)], [(x, y)]) for x, y in pairs]
    if sort == "leads":
        for z in taps:
            x, y = other_taps(taps, (z,))
            found.append(summed([(x, z), (y, z)], [(z,)]))
    elif len(taps) == 4 and sort == "pipes":
        found.append(summed([("a", "b"), ("a", "c"), ("a", "d")], [(tap,) for tap in taps]))
    elif len(taps) == 4:
        for x, y in pairs:
            z, t = other_taps(taps, (x, y))
            found.append(summed([(x, z), (x, t)], [(x,), (y,)]))
    elif len(taps) == 5:
        for pair in pairs:
            others = other_taps(taps, pair)
            found.append(summed(itertools.combinations(others, 2), [pair, *[(tap,) for tap in others]]))
    return found


class ChecksTest(unittest.TestCase):
    def test_against_the_words(self):
        for taps, sort in WITHIN:
            told = checks(taps, sort)
            self.assertIs(type(told), tuple)
            expected = []
            for weights in slow_checks(taps, sort):
                plain_weights = {}
                for lot, weight in weights.items():
                    key = lot if sort == "leads" else plain(taps, lot)
                    plain_weights[key] = plain_weights.get(key, 0) + weight
                expected.append(claim_with(taps, plain_weights))
            self.assertEqual(list(told), expected, (taps, sort))
            for check in told:
                self.assertIs(is_claim(check), True)
                self.assertEqual(plain_form(check, sort), check)

    def test_numbers(self):
        self.assertEqual({(sort, len(taps)): (len(kinds(taps, sort)), len(checks(taps, sort))) for taps, sort in WITHIN}, {
            ("pipes", 2): (1, 1), ("pipes", 3): (3, 3), ("pipes", 4): (7, 7), ("pipes", 5): (20, 20),
            ("hubs", 2): (1, 1), ("hubs", 3): (3, 3), ("hubs", 4): (8, 12), ("leads", 2): (2, 2), ("leads", 3): (12, 12)})

    def test_they_hold_for_all_nets_of_the_sort(self):
        for taps, sort in WITHIN:
            for check in checks(taps, sort):
                self.assertEqual(verdict(check, sort)[0], "holds", (sort, check))
                self.assertEqual(verdict_by_kinds(check, sort)[0], "holds")

    def test_none_follows_from_the_others(self):
        # For each check there is a table that fails it alone; kinds less a little of one give such tables.
        for taps, sort in WITHIN:
            every = checks(taps, sort)
            for check in every:
                table = self.table_failing_just(taps, sort, check, every)
                self.assertEqual([one for one in every if worth_by(one, sort, table) < 0], [check])
                self.assertEqual(first_failed(taps, sort, table), check)
                self.assertEqual(reached(taps, sort, table), ("fails", check))

    def test_no_kind_is_a_sum_of_the_others(self):
        for taps, sort in WITHIN:
            tables = [table_of(kind, sort) for kind in kinds(taps, sort)]
            for at, table in enumerate(tables):
                others = tables[:at] + tables[at + 1:]
                rows = [(tuple(int(one == other) for other in range(len(others))), 0) for one in range(len(others))]
                for lot, told in table.items():
                    row = tuple(other[lot] for other in others)
                    rows.extend([(row, told), (tuple(-entry for entry in row), -told)])
                if others:
                    self.assertEqual(solved(rows)[0], "weights", (taps, sort, at))

    def table_failing_just(self, taps, sort, check, every):
        keys = keys_of(taps, sort)
        rows = []
        for one in every:
            weights = dict(one[1])
            side = -1 if one == check else 1
            rows.append((tuple(as_number(side * fraction(weights.get(lot, 0))) for lot in keys), 1 if one == check else 0))
        word, point = solved(rows)
        self.assertEqual(word, "point", (taps, sort, check))
        return dict(zip(keys, point))


class TableTest(unittest.TestCase):
    def test_is_table(self):
        for taps, sort in WITHIN + [(NAMES, sort) for sort in SORTS]:
            keys = keys_of(taps, sort)
            table = {lot: at - 3 for at, lot in enumerate(keys)}
            self.assertIs(is_table(taps, sort, table), True)
            self.assertIs(is_table(taps, sort, dict(reversed(list(table.items())))), True)
            self.assertIs(is_table(taps, sort, {**table, keys[0]: (-LONG, LONG + 1)}), True)
            for number in NO_NUMBERS:
                self.assertIs(is_table(taps, sort, {**table, keys[-1]: number}), False)
            less = dict(table)
            less.pop(keys[0])
            for value in (None, True, 1, [], (), "ab", {}, less, {**table, ("z",): 0}, {**table, (): 0}, {**table, taps: 0},
                          {**less, "a": 1}, list(table.items()), {**less, 1: 1}, {**less, None: 1}):
                self.assertIs(is_table(taps, sort, value), False)
        self.assertIs(is_table(AB, "pipes", {("b",): 1}), False)
        self.assertIs(is_table(AB, "leads", {("b",): 1, ("a",): 0}), True)
        assert_errors(self, is_table, (AB, "pipes", None), [(0, BadTaps, NO_TAPS), (1, BadSort, NO_SORTS)])
        self.assertIs(is_table(value={("a",): 1}, sort="pipes", taps=AB), True)

    def test_tables_of_nets(self):
        draw = generator(51)
        for at in range(200):
            taps, sort = draw.choice(WITHIN)
            net = drawn_net(draw, taps, sort, 3)
            table = table_of(net, sort)
            self.assertIsNone(first_failed(taps, sort, table))
            mixed = dict(draw.sample(list(table.items()), len(table)))
            word, told = reached(taps, sort, mixed)
            self.assertEqual(word, "net")
            self.assertIs(is_net(told) and is_of_sort(told, sort) and told[0] == taps, True)
            if len(inner_of(told)) <= 8:
                self.assertEqual(table_of(told, sort), table)

    def test_drawn_tables(self):
        draw = generator(52)
        seen = {"net": 0, "fails": 0}
        for at in range(300):
            taps, sort = draw.choice(WITHIN)
            base = draw.randint(2, 6)
            table = {lot: as_number(base + Fraction(draw.randint(-3, 6), 6)) if draw.random() < 0.5 else base
                     for lot in keys_of(taps, sort)}
            failed = [check for check in checks(taps, sort) if worth_by(check, sort, table) < 0]
            self.assertEqual(first_failed(taps, sort, table), failed[0] if failed else None)
            word, told = reached(taps, sort, table)
            seen[word] += 1
            if failed:
                self.assertEqual((word, told), ("fails", failed[0]))
            else:
                self.assertEqual(word, "net")
                self.assertEqual(slow_walls(told, list(table)) if len(inner_of(told)) <= 4 else table, table)
        self.assertGreater(min(seen.values()), 30, seen)

    def test_errors(self):
        right = (ABC, "leads", {lot: 1 for lot in all_lots(ABC)})
        wrong = (None, True, [], {}, {("a",): 1}, {**right[2], ("b",): None}, {**right[2], ("d",): 1}, list(right[2].items()))
        for function in (first_failed, reached):
            assert_errors(self, function, right, [(0, BadTaps, NO_TAPS), (1, BadSort, NO_SORTS), (2, BadTable, wrong)])
            for sort in SORTS:
                for many in range(REACH[sort] + 1, 7):
                    taps = NAMES[:many]
                    table = {lot: 1 for lot in keys_of(taps, sort)}
                    assert_raises(self, function, (taps, sort, table), TooMany, most=REACH[sort])
                    assert_raises(self, function, (taps, sort, {}), BadTable)
        self.assertIsNone(first_failed(table={("a",): 0}, sort="pipes", taps=AB))
        self.assertEqual(reached(table={("a",): 0}, sort="pipes", taps=AB), ("net", (AB, ())))
        self.assertEqual(reached(AB, "pipes", {("a",): (-1, 2)}), ("fails", (AB, ((("a",), 1),))))


class VerdictByKindsTest(unittest.TestCase):
    def test_the_word_of_verdict(self):
        draw = generator(53)
        words = {}
        for at in range(300):
            taps, sort = draw.choice(WITHIN)
            claim = drawn_terms(draw, taps, sort, draw.randint(0, 3), draw.randint(0, 2), draw.choice(("whole", "fraction")))
            word, shown = verdict_by_kinds(claim, sort)
            self.assertEqual(word, verdict(claim, sort)[0])
            worths = [counted_worth(claim, kind) for kind in kinds(taps, sort)]
            if word == "holds":
                self.assertEqual([fraction(worth) for worth in shown], worths)
                self.assertGreaterEqual(min(worths), 0)
            else:
                self.assertEqual(shown, [kind for kind, worth in zip(kinds(taps, sort), worths) if worth < 0][0])
            words[sort, word] = words.get((sort, word), 0) + 1
        self.assertEqual(len(words), 6)

    def test_the_four_lots(self):
        self.assertEqual(verdict_by_kinds(C, "pipes"), ("holds", (0, 0, 0, 0, 0, 0, 2)))
        self.assertEqual(verdict_by_kinds(C, "hubs"), ("breaks", (ABCD, (("hub", ABCD, 1),))))
        self.assertEqual(verdict_by_kinds((AB, ()), "leads"), ("holds", (0, 0)))

    def test_errors(self):
        assert_errors(self, verdict_by_kinds, ((ABC, ()), "leads"), [(0, BadClaim, NO_CLAIMS), (1, BadSort, NO_SORTS)])
        for sort in SORTS:
            for many in range(REACH[sort] + 1, 7):
                assert_raises(self, verdict_by_kinds, ((NAMES[:many], ()), sort), TooMany, most=REACH[sort])
        self.assertEqual(verdict_by_kinds(sort="pipes", claim=(AB, ())), ("holds", (0,)))
        # More greater terms than a cube may have are no hindrance.
        many = (ABCDE, tuple((lot, 1) for lot in keys_of(ABCDE, "pipes")))
        self.assertEqual(verdict_by_kinds(many, "pipes")[0], "holds")
        self.assertEqual(net_sort(kinds(AB, "leads")[0]), "leads")


if __name__ == "__main__":
    unittest.main()
