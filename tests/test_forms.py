import itertools
import unittest
from fractions import Fraction

from checking import (LONG, NAMES, NO_NUMBERS_FROM_0, NO_SORTS, NO_TAPS, SORTS, as_number, assert_errors, assert_new,
                      assert_raises, drawn_net, error_of, fraction, keys_of, net_sort, plain, slow_walls)
from judging import ABCD, generator
from test_nets import NO_NETS

from behindtaps.errors import BadForm, BadNet, BadNumber, BadPlaces, BadSort, BadTable, BadTaps, TooMany
from behindtaps.flows import alike_nets, walls
from behindtaps.forms import (form_of_net, form_of_table, form_times, hidden_form, is_form, melted_form, net_of_form, straight,
                              sum_of_forms, table_of_form)
from behindtaps.kinds import checks, kinds
from behindtaps.nets import beside, hidden_net, inner_of, is_net, melted_net, scaled, sort_of

AB = ("a", "b")
ABC = ("a", "b", "c")
ABCDE = ("a", "b", "c", "d", "e")
FOURS = list(itertools.combinations(ABCDE, 4))
BENT_HUB = (ABCD, (("hub", ABCD, 1),))
CROSS = (ABCD, tuple(("pipe", tap, "x", 1) for tap in ABCD))


def form_keys(taps, has_hub=False):
    keys = list(itertools.combinations(taps, 2))
    keys += ["cross"] if len(taps) == 4 else []
    keys += ["hub"] if has_hub else []
    return keys + (list(itertools.combinations(taps, 4)) + [(tap,) for tap in taps] if len(taps) == 5 else [])


def drawn_form(draw, taps, has_hub=False, kind="fraction"):
    """A form, its zeros as [74] tells them."""
    def some():
        if draw.random() < 0.3:
            return 0
        return draw.randint(0, LONG) if kind == "long" else as_number(Fraction(draw.randint(0, 9), draw.randint(1, 4)))
    form = {key: some() for key in form_keys(taps, has_hub)}
    if has_hub:
        form[draw.choice(("cross", "hub"))] = 0
    if len(taps) == 5:
        middle = draw.choice(taps)
        form.update({(tap,): 0 for tap in taps if tap != middle})
        if form[(middle,)] != 0:
            form[tuple(tap for tap in taps if tap != middle)] = 0
    return form


def drawn_forms(seed, many):
    draw = generator(seed)
    for at in range(many):
        taps = NAMES[:2 + at % 4]
        yield draw, taps, drawn_form(draw, taps, len(taps) == 4 and draw.random() < 0.5, draw.choice(("fraction", "long")))


def table_by_kinds(form):
    """The table of a form, its numbers taken as multiples of the kinds."""
    taps = tuple(sorted({tap for key in form if type(key) is tuple and len(key) == 2 for tap in key}))
    every = kinds(taps, "hubs" if "hub" in form else "pipes")
    keys = form_keys(taps, "hub" in form)
    tables = [slow_walls(kind, keys_of(taps, "pipes")) for kind in every]
    return {lot: as_number(sum((fraction(form[key]) * fraction(table[lot]) for key, table in zip(keys, tables)), Fraction(0)))
            for lot in keys_of(taps, "pipes")}


class IsFormTest(unittest.TestCase):
    def test_right_ones(self):
        for draw, taps, form in drawn_forms(61, 200):
            self.assertIs(is_form(form), True, form)
            mixed = list(form.items())
            draw.shuffle(mixed)
            self.assertIs(is_form(dict(mixed)), True)
        self.assertIs(is_form({("a", "b"): 0}), True)
        self.assertIs(is_form(value={("x1", "y"): (LONG, LONG + 1)}), True)

    def test_wrong_ones(self):
        for draw, taps, form in drawn_forms(62, 80):
            key = draw.choice(list(form))
            less = {one: number for one, number in form.items() if one != key}
            wrong = [less, {**form, "more": 0}, {**form, ("a", "z"): 0}, {**form, 1: 0}, {**less, str(key): 0},
                     {**form, key: -1}, {**form, key: (-1, 2)}, list(form.items()), {**form, (): 0}, {**form, None: 1}]
            wrong += [{**form, key: number} for number in NO_NUMBERS_FROM_0]
            for value in wrong:
                if type(key) is tuple:
                    self.assertIs(is_form(value), False, value)
        for value in (None, True, 1, "form", [], (), {}, {"cross": 1}, {("b", "a"): 1}, {("a", "a"): 1}, {("a", "B"): 1},
                      {("a", "b"): 1, "hub": 0}, {("a", "b"): 1, "cross": 0}, {("a",): 1}, {("a", 1): 1},
                      {pair: 0 for pair in itertools.combinations(NAMES, 2)}, {("a", "b"): 1, ("c", "d"): 1},
                      {pair: 0 for pair in itertools.combinations(ABCD, 2)}, {"ab": 1}, {("a", "b"): 0, ("a", None): 0}):
            self.assertIs(is_form(value), False, value)

    def test_what_must_be_0(self):
        four = {**dict.fromkeys(form_keys(ABCD, True), 1), "hub": 0}
        self.assertIs(is_form(four), True)
        self.assertIs(is_form({**four, "cross": 0, "hub": 1}), True)
        self.assertIs(is_form({**four, "hub": (1, LONG)}), False)
        five = dict.fromkeys(form_keys(ABCDE), 0)
        for tap, four in itertools.product(ABCDE, FOURS):
            self.assertIs(is_form({**five, (tap,): 1, four: 1}), tap in four)
            self.assertIs(is_form({**five, (tap,): 0, four: 1}), True)
        for one, other in itertools.combinations(ABCDE, 2):
            self.assertIs(is_form({**five, (one,): 1, (other,): 1}), False)
        self.assertIs(is_form({**five, **dict.fromkeys(FOURS, 2)}), True)


class ThereAndBackTest(unittest.TestCase):
    def test_table_and_net_of_form(self):
        for draw, taps, form in drawn_forms(63, 160):
            table = table_of_form(form)
            self.assertEqual(list(table.items()), list(table_by_kinds(form).items()))
            net = net_of_form(form)
            self.assertIs(is_net(net), True)
            self.assertEqual(net[0], taps)
            self.assertEqual(sort_of(net), "hubs" if form.get("hub", 0) != 0 else "pipes")
            if len(inner_of(net)) <= 6:
                self.assertEqual(slow_walls(net, list(table)), table)
            sort = "hubs" if "hub" in form else "pipes"
            word, told = form_of_table(taps, sort, dict(draw.sample(list(table.items()), len(table))))
            self.assertEqual((word, list(told.items())), ("form", list(form.items())))
            if sort_of(net) == sort:
                self.assertEqual(list(form_of_net(net).items()), list(form.items()))
            self.assertIs(alike_nets(net, net_of_form(told)), True)

    def test_form_of_net(self):
        draw = generator(64)
        for at in range(200):
            sort = ("pipes", "hubs")[at % 2]
            taps = NAMES[:draw.randint(2, 5 if sort == "pipes" else 4)]
            net = drawn_net(draw, taps, sort, 3, 7)
            form = form_of_net(net)
            self.assertIs(is_form(form), True)
            self.assertEqual(list(form), form_keys(taps, len(taps) == 4 and net_sort(net) == "hubs"))
            self.assertEqual(table_by_kinds(form), slow_walls(net, keys_of(taps, "pipes")))
            other = net_of_form(form)
            self.assertEqual({key: number for key, number in form_of_net(other).items() if key != "hub"},
                             {key: number for key, number in form.items() if key != "hub"})

    def test_one_form(self):
        # Nets alike from outside have one form, others have another one.
        draw = generator(65)
        for at in range(120):
            taps = NAMES[:draw.randint(2, 5)]
            one = drawn_net(draw, taps, "pipes", 2, 4, "whole")
            other = drawn_net(draw, taps, "pipes", 2, 4, "whole")
            if draw.random() < 0.5:
                other = (taps, tuple(part[:-1] + (part[-1],) for part in reversed(one[1])))
            self.assertIs(form_of_net(one) == form_of_net(other), alike_nets(one, other))

    def test_a_cross_and_two_hubs_are_six_straight_kinds(self):
        both = beside(CROSS, scaled(BENT_HUB, 2))
        self.assertEqual(form_of_net(both), {**dict.fromkeys(itertools.combinations(ABCD, 2), 1), "cross": 0, "hub": 0})
        cross = {**dict.fromkeys(form_keys(ABCD, True), 0), "cross": 1}
        hub = {**dict.fromkeys(form_keys(ABCD, True), 0), "hub": 1}
        self.assertEqual(sum_of_forms(cross, form_times(hub, 2)), form_of_net(both))
        self.assertEqual(sum_of_forms(cross, hub), {**dict.fromkeys(itertools.combinations(ABCD, 2), (1, 2)),
                                                    "cross": (1, 2), "hub": 0})
        self.assertEqual(sum_of_forms(cross, form_times(hub, 3)),
                         {**dict.fromkeys(itertools.combinations(ABCD, 2), 1), "cross": 0, "hub": 1})

    def test_known_forms(self):
        self.assertEqual(form_of_net((AB, (("pipe", "a", "b", (3, 2)),))), {("a", "b"): (3, 2)})
        self.assertEqual(form_of_net((AB, (("hub", ("a", "b", "x"), 2),))), {("a", "b"): 2})
        self.assertEqual(form_of_net((ABC, (("hub", ABC, 1),))), dict.fromkeys(itertools.combinations(ABC, 2), (1, 2)))
        self.assertEqual(form_of_net(CROSS), {**dict.fromkeys(itertools.combinations(ABCD, 2), 0), "cross": 1})
        self.assertEqual(form_of_net(BENT_HUB), {**dict.fromkeys(form_keys(ABCD, True), 0), "hub": 1})
        self.assertEqual(form_of_net((ABCD, CROSS[1] + (("hub", AB, 0),)))["hub"], 0)
        for at, kind in enumerate(kinds(ABCDE, "pipes")):
            self.assertEqual(list(form_of_net(kind).values()), [int(at == other) for other in range(20)])

    def test_formulas(self):
        # [75], word by word, over drawn nets.
        draw = generator(66)
        for at in range(100):
            taps = NAMES[:draw.randint(2, 5)]
            net = drawn_net(draw, taps, "hubs" if len(taps) == 4 and at % 2 else "pipes", 3)
            table = {lot: fraction(told) for lot, told in slow_walls(net, keys_of(taps, "pipes")).items()}

            def w(*lot):
                return table[plain(taps, tuple(sorted(lot)))] if len(lot) < len(taps) else Fraction(0)
            form = {key: fraction(number) for key, number in form_of_net(net).items()}
            hub = form.get("hub", Fraction(0))
            for x, y in itertools.combinations(taps, 2):
                self.assertEqual(form[x, y], (w(x) + w(y) - w(x, y)) / 2 - hub / 2)
            if len(taps) == 4:
                last = w("a", "b") + w("a", "c") + w("a", "d") - w("a") - w("b") - w("c") - w("d")
                self.assertEqual((form["cross"], hub), (last / 2, 0) if last >= 0 else (0, -last))
            if len(taps) == 5:
                t = {x: form[tuple(tap for tap in taps if tap != x)] * 2 for x in taps}
                for o in taps:
                    if form[(o,)] != 0:
                        t = {x: -form[(o,)] if x == o else t[x] + form[(o,)] for x in taps}
                for x, y in itertools.combinations(taps, 2):
                    p, q, r = [tap for tap in taps if tap not in (x, y)]
                    self.assertEqual(w(p, q) + w(p, r) + w(q, r) - w(x, y) - w(p) - w(q) - w(r), t[x] + t[y])


class SumsTest(unittest.TestCase):
    def test_sums_and_multiples(self):
        for draw, taps, form in drawn_forms(67, 160):
            other = drawn_form(draw, taps, "hub" in form)
            told = sum_of_forms(form, other)
            self.assertIs(is_form(told), True)
            self.assertEqual(list(told), list(form))
            table, more = table_by_kinds(form), table_by_kinds(other)
            self.assertEqual(table_by_kinds(told), {lot: as_number(fraction(table[lot]) + fraction(more[lot])) for lot in table})
            self.assertEqual(sum_of_forms(other, form), told)
            if len(inner_of(net_of_form(form))) + len(inner_of(net_of_form(other))) <= 12 and taps != ABCD:
                self.assertEqual(told, form_of_net(beside(net_of_form(form), net_of_form(other))))
            factor = draw.choice((0, 1, (1, 3), 7, LONG))
            times = form_times(dict(reversed(list(form.items()))), factor)
            self.assertEqual(list(times.items()),
                             [(key, as_number(fraction(number) * fraction(factor))) for key, number in form.items()])

    def test_stars_beside_one_another(self):
        stars = kinds(ABCDE, "pipes")[15:]
        for one, other in itertools.product(stars, repeat=2):
            told = sum_of_forms(form_of_net(one), form_of_net(other))
            self.assertEqual(told, form_of_net(beside(one, other)))
            self.assertIs(is_form(told), True)
        for cross in kinds(ABCDE, "pipes")[10:15]:
            self.assertEqual(sum_of_forms(form_of_net(cross), form_of_net(stars[0])), form_of_net(beside(cross, stars[0])))

    def test_melted_and_hidden(self):
        for draw, taps, form in drawn_forms(68, 160):
            if len(taps) == 2:
                continue
            kept, gone = draw.sample(taps, 2)
            net = net_of_form(form)
            for told, behind in ((melted_form(form, kept, gone), melted_net(net, kept, gone)),
                                 (hidden_form(form, gone), hidden_net(net, gone))):
                left = tuple(tap for tap in taps if tap != gone)
                self.assertEqual(list(told), form_keys(left))
                self.assertIs(is_form(told), True)
                self.assertEqual(table_of_form(told), walls(behind))

    def test_drawn_nets_melted_and_hidden(self):
        draw = generator(69)
        for at in range(100):
            sort = ("pipes", "hubs")[at % 2]
            taps = NAMES[:draw.randint(3, 5 if sort == "pipes" else 4)]
            net = drawn_net(draw, taps, sort, 3)
            kept, gone = draw.sample(taps, 2)
            form = form_of_net(net)
            self.assertEqual(table_of_form(melted_form(form, kept, gone)), walls(melted_net(net, kept, gone)))
            self.assertEqual(table_of_form(hidden_form(form, gone)), walls(hidden_net(net, gone)))


class StraightTest(unittest.TestCase):
    def test_the_example(self):
        net = (ABCD, (("pipe", "a", "x", 3), ("pipe", "b", "x", 1), ("pipe", "c", "x", 1), ("pipe", "d", "x", 1)))
        plain_net = (ABCD, (("pipe", "a", "b", 1), ("pipe", "a", "c", 1), ("pipe", "a", "d", 1)))
        self.assertEqual(straight(net), ("straight", plain_net))
        self.assertEqual(walls(net), walls(plain_net))

    def test_drawn_nets(self):
        draw = generator(70)
        seen = {"straight": 0, "bent": 0}
        for at in range(200):
            sort = ("pipes", "hubs")[at % 2]
            taps = NAMES[:draw.randint(2, 6)]
            net = drawn_net(draw, taps, sort, draw.randint(0, 2), 7)
            if at % 3 == 0:
                some = draw.sample(taps, draw.randint(2, len(taps)))
                net = beside(net, (taps, tuple(("pipe", *sorted((tap, "q")), draw.randint(1, 2)) for tap in some)))
            word, told = straight(net)
            table = {lot: fraction(number) for lot, number in slow_walls(net, keys_of(taps, "pipes")).items()}
            parts = []
            for x, y in itertools.combinations(taps, 2):
                alone = table[plain(taps, (x,))] + table[plain(taps, (y,))]
                width = (alone - (table[plain(taps, (x, y))] if len(taps) > 2 else 0)) / 2
                self.assertGreaterEqual(width, 0)
                parts += [("pipe", x, y, as_number(width))] if width else []
            made = (taps, tuple(parts))
            more = slow_walls(made, keys_of(taps, "pipes"))
            unlike = [lot for lot in keys_of(taps, "pipes") if more[lot] != as_number(table[lot])]
            self.assertEqual((word, told), ("bent", unlike[0]) if unlike else ("straight", made))
            seen[word] += 1
            if len(taps) <= 3:
                self.assertEqual(word, "straight")
            elif len(taps) <= (5 if net_sort(net) == "pipes" else 4):
                form = form_of_net(net)
                rest = [number for key, number in form.items() if len(key) != 2]
                self.assertEqual(word == "straight", not any(rest))
        self.assertGreater(min(seen.values()), 15, seen)

    def test_bent_nets(self):
        # All pairs have the width 0 there, so the first lot has no wall at all.
        self.assertEqual(straight(CROSS), ("bent", ("a",)))
        # Widths of 1/2 between all pairs give the lot of a the wall 3/2.
        self.assertEqual(straight(BENT_HUB), ("bent", ("a",)))
        star = (ABCDE, tuple(("pipe", tap, "x", 2 if tap == "a" else 1) for tap in ABCDE))
        self.assertEqual(straight(star)[0], "bent")
        both = beside(CROSS, (ABCD, (("pipe", "a", "b", LONG),)))
        self.assertEqual(straight(both)[0], "bent")
        self.assertEqual(straight((AB, (("hub", ("a", "b"), (1, 3)),))), ("straight", (AB, (("pipe", "a", "b", (1, 3)),))))
        self.assertEqual(straight((NAMES, ())), ("straight", (NAMES, ())))
        self.assertEqual(straight(net=(AB, ())), ("straight", (AB, ())))


class ErrorsTest(unittest.TestCase):
    def test_nets(self):
        lead = (ABC, (("lead", "a", "b", 1),))
        for function in (form_of_net, straight):
            assert_errors(self, function, ((ABC, ()),), [(0, BadNet, NO_NETS + (lead,))])
        assert_raises(self, form_of_net, ((NAMES, ()),), TooMany, most=5)
        assert_raises(self, form_of_net, ((ABCDE, (("hub", AB, 0),)),), TooMany, most=4)
        assert_raises(self, form_of_net, ((NAMES, (("lead", "a", "b", 1),)),), BadNet)
        self.assertEqual(form_of_net(net=(AB, ())), {("a", "b"): 0})

    def test_tables(self):
        right = (ABC, "hubs", {("a",): 1, ("b",): 1, ("c",): 1})
        wrong = (None, True, [], {}, {("a",): 1}, {**right[2], ("b",): None}, {**right[2], ("d",): 1})
        assert_errors(self, form_of_table, right, [(0, BadTaps, NO_TAPS), (1, BadSort, (*NO_SORTS, "leads")),
                                                   (2, BadTable, wrong)])
        for sort, most in (("pipes", 5), ("hubs", 4)):
            for many in range(most + 1, 7):
                table = {lot: 1 for lot in keys_of(NAMES[:many], sort)}
                assert_raises(self, form_of_table, (NAMES[:many], sort, table), TooMany, most=most)
                assert_raises(self, form_of_table, (NAMES[:many], sort, {}), BadTable)
        for sort in SORTS[::2]:
            told = form_of_table(ABC, sort, {("a",): 1, ("b",): 1, ("c",): 3})
            self.assertEqual(told, ("fails", checks(ABC, sort)[0]))
        self.assertEqual(form_of_table(table={("a",): 1}, sort="pipes", taps=AB), ("form", {("a", "b"): 1}))
        low = {("a",): 1, ("b",): 1, ("c",): 1, ("d",): 1, ("a", "b"): 1, ("a", "c"): 1, ("a", "d"): 1}
        self.assertEqual(form_of_table(ABCD, "pipes", low), ("fails", checks(ABCD, "pipes")[-1]))
        self.assertEqual(form_of_table(ABCD, "hubs", low), ("form", form_of_net(BENT_HUB)))

    def test_forms(self):
        no_forms = (None, True, 1, [], {}, {("a", "b"): -1}, {("b", "a"): 1}, {("a", "b"): 1, "hub": 0})
        form = {("a", "b"): 1, ("a", "c"): 2, ("b", "c"): 3}
        for function in (table_of_form, net_of_form):
            assert_errors(self, function, (form,), [(0, BadForm, no_forms)])
        assert_new(self, table_of_form, (form,))
        others = no_forms + ({("a", "b"): 1}, dict.fromkeys(itertools.combinations(("a", "b", "d"), 2), 0),
                             dict.fromkeys(form_keys(ABCD), 0))
        assert_errors(self, sum_of_forms, (form, form), [(0, BadForm, no_forms), (1, BadForm, others)])
        four = dict.fromkeys(form_keys(ABCD), 0)
        assert_raises(self, sum_of_forms, (four, {**four, "hub": 0}), BadForm)
        assert_raises(self, sum_of_forms, ({**four, "hub": 0}, four), BadForm)
        assert_errors(self, form_times, (form, 2), [(0, BadForm, no_forms), (1, BadNumber, NO_NUMBERS_FROM_0)])
        no_taps = (None, True, 1, "", "d", ("a",), ["a"], {})
        assert_errors(self, melted_form, (form, "a", "b"), [(0, BadForm, no_forms), (1, BadPlaces, no_taps),
                                                            (2, BadPlaces, (*no_taps, "a"))])
        assert_errors(self, hidden_form, (form, "a"), [(0, BadForm, no_forms), (1, BadPlaces, no_taps)])
        assert_raises(self, melted_form, ({("a", "b"): 1}, "a", "b"), BadPlaces)
        assert_raises(self, hidden_form, ({("a", "b"): 1}, "a"), BadPlaces)
        for function, arguments in ((sum_of_forms, (form, form)), (form_times, (form, 2)), (melted_form, (form, "a", "b")),
                                    (hidden_form, (form, "a"))):
            assert_new(self, function, arguments)
        self.assertEqual(sum_of_forms(other=form, one=form), form_times(factor=2, form=form))
        self.assertEqual(melted_form(gone="c", kept="a", form=form), {("a", "b"): 4})
        self.assertEqual(hidden_form(tap="c", form=form), {("a", "b"): 3})
        self.assertIsNone(error_of(net_of_form, (form,)))


if __name__ == "__main__":
    unittest.main()
