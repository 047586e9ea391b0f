import itertools
import unittest
from fractions import Fraction

from checking import (LONG, NAMES, NO_NUMBERS, NO_NUMBERS_FROM_0, NO_SORTS, SORTS, all_lots, as_number, assert_errors,
                      assert_new, assert_raises, error_of, fraction, net_sort, plain_weights)
from judging import ABCD, C, claim_with, cube_of, drawn_terms, generator, least_over_sides, paper_faults
from test_claims import NO_CLAIMS

from behindtaps.cubes import corners, cube_net, cube_places, is_paper, spans, tap_corners
from behindtaps.errors import BadClaim, BadSort, BadWidths, TooMany
from behindtaps.lots import is_name
from behindtaps.nets import is_net, is_of_sort
from behindtaps.verdicts import verdict

AB = ("a", "b")
ABC = ("a", "b", "c")
PAPER_OF_C = tuple(tuple(int(corner == place) for corner in itertools.product((0, 1), repeat=3))
                   for place in ((1, 1, 1), (1, 0, 0), (0, 1, 0), (0, 0, 1)))


def many_greater(many, taps=NAMES):
    """A claim with so many greater terms, plain for all sorts."""
    return (taps, tuple((lot, 1) for lot in all_lots(taps) if len(lot) <= 2)[:many])


class CornersTest(unittest.TestCase):
    def test_corners(self):
        self.assertEqual(corners((AB, ()), "pipes"), [()])
        self.assertEqual(corners((AB, ((("a",), -1),)), "leads"), [()])
        self.assertEqual(corners((AB, ((("a",), 1),)), "hubs"), [(0,), (1,)])
        self.assertEqual(corners(many_greater(2), "pipes"), [(0, 0), (0, 1), (1, 0), (1, 1)])
        for many in range(5):
            for sort in SORTS:
                if sort != "hubs" or many < 4:
                    self.assertEqual(corners(many_greater(many), sort), list(itertools.product((0, 1), repeat=many)))

    def test_tap_corners(self):
        self.assertEqual(list(tap_corners(C, "pipes").items()),
                         [("a", (1, 1, 1)), ("b", (1, 0, 0)), ("c", (0, 1, 0)), ("d", (0, 0, 1))])
        self.assertEqual(tap_corners((AB, ()), "hubs"), {"a": (), "b": ()})
        claim = (ABC, ((("a",), 1), (("a", "b"), 2), (("b", "c"), 3), (("c",), -1)))
        self.assertEqual(tap_corners(claim, "leads"), {"a": (1, 1, 0), "b": (0, 1, 1), "c": (0, 0, 1)})
        # For pipes and hubs (b, c) stands for (a), and (a, b) for (c): weights 4 and 1.
        self.assertEqual(tap_corners(claim, "pipes"), {"a": (1, 0), "b": (0, 0), "c": (0, 1)})
        self.assertEqual(tap_corners(claim, "hubs"), {"a": (1, 0), "b": (0, 0), "c": (0, 1)})

    def test_what_comes_to_0_is_no_direction(self):
        claim = (ABC, ((("a",), 1), (("b",), 2), (("b", "c"), -1)))
        self.assertEqual(corners(claim, "pipes"), [(0,), (1,)])
        self.assertEqual(tap_corners(claim, "hubs"), {"a": (0,), "b": (1,), "c": (0,)})
        self.assertEqual(corners(claim, "leads"), list(itertools.product((0, 1), repeat=2)))

    def test_spans(self):
        self.assertEqual(spans((AB, ()), "hubs"), [])
        self.assertEqual(spans((AB, ((("a",), 1),)), "leads"), [((0,), (1,))])
        self.assertEqual(spans(many_greater(2), "hubs"), [((0, 0), (0, 1)), ((0, 0), (1, 0)), ((0, 0), (1, 1)),
                                                          ((0, 1), (1, 1)), ((1, 0), (1, 1))])
        self.assertEqual(spans(many_greater(2), "pipes"), [((0, 0), (0, 1)), ((0, 0), (1, 0)), ((0, 1), (1, 1)),
                                                           ((1, 0), (1, 1))])
        for many, edges, all_spans in ((1, 1, 1), (2, 4, 5), (3, 12, 19), (4, 32, None)):
            claim = many_greater(many)
            for sort in ("pipes", "leads"):
                told = spans(claim, sort)
                self.assertEqual(len(told), edges)
                self.assertEqual(told, sorted(cube_of(claim, sort)[0].spans))
            if all_spans is not None:
                self.assertEqual(len(spans(claim, "hubs")), all_spans)
                self.assertEqual(spans(claim, "hubs"), sorted(cube_of(claim, "hubs")[0].spans))

    def test_errors(self):
        for function in (corners, tap_corners, spans, cube_places):
            assert_errors(self, function, (C, "pipes"), [(0, BadClaim, NO_CLAIMS), (1, BadSort, NO_SORTS)])
            assert_new(self, function, (C, "pipes"))
            for sort, most in (("pipes", 4), ("leads", 4), ("hubs", 3)):
                self.assertIsNone(error_of(function, (many_greater(most), sort)))
                assert_raises(self, function, (many_greater(most + 1), sort), TooMany, most=most)
            assert_raises(self, function, (many_greater(5), "pipe"), BadSort)

    def test_too_many_counts_plain_lots(self):
        # Five greater terms as they stand, four in the plain form.
        claim = (ABCD, ((("a",), 1), (("a", "b"), 1), (("a", "c"), 1), (("b",), 1), (("c", "d"), 1)))
        self.assertEqual(len(corners(claim, "pipes")), 16)
        assert_raises(self, corners, (claim, "leads"), TooMany, most=4)
        assert_raises(self, corners, (claim, "hubs"), TooMany, most=3)

    def test_parameters_by_name(self):
        self.assertEqual(corners(sort="pipes", claim=(AB, ())), [()])
        self.assertEqual(tap_corners(sort="pipes", claim=(AB, ())), {"a": (), "b": ()})
        self.assertEqual(spans(sort="pipes", claim=(AB, ())), [])
        self.assertIs(is_paper(value=(), sort="pipes", claim=(AB, ())), True)
        self.assertEqual(cube_places(sort="pipes", claim=(AB, ())), {(): "a"})
        self.assertEqual(cube_net(widths={}, sort="pipes", claim=(AB, ())), (AB, ()))


class PaperTest(unittest.TestCase):
    def test_the_paper_of_the_four_lots(self):
        self.assertIs(is_paper(C, "pipes", PAPER_OF_C), True)
        self.assertIs(is_paper(C, "hubs", PAPER_OF_C), False)

    def test_no_lesser_terms(self):
        claim = (ABC, ((("a",), 1),))
        for sort in SORTS:
            for value in ((), ((0, 1),), [], None, 0, "", ((),)):
                self.assertIs(is_paper(claim, sort, value), value == () and type(value) is tuple)

    def test_no_paper_where_two_taps_have_one_corner(self):
        claim = (ABC, ((("a",), 5), (("b",), -1)))
        for sort in SORTS:
            for low, high in itertools.product((0, (1, 2), 1), repeat=2):
                self.assertIs(is_paper(claim, sort, ((low, high),)), False)

    def test_judged_values(self):
        rows = PAPER_OF_C
        row = rows[0]
        wrong = [list(rows), rows[:3], rows + (row,), (list(row),) + rows[1:], (row[:7],) + rows[1:],
                 (row + (0,),) + rows[1:], None, True, 3, "paper", {}, dict(enumerate(rows)), ((),) * 4, (None,) * 4,
                 rows[::-1], rows[1:] + rows[:1], (rows,), ("01000000",) * 4, ({},) + rows[1:]]
        for number in (*NO_NUMBERS, 2, (3, 2), -1, (-1, 2)):
            wrong.append((row[:1] + (number,) + row[2:],) + rows[1:])
        for at in range(8):
            other = row[:at] + (bool(row[at]),) + row[at + 1:]
            wrong.append((other,) + rows[1:])
        for value in wrong:
            self.assertIs(is_paper(C, "pipes", value), False, value)

    def test_errors(self):
        assert_errors(self, is_paper, (C, "pipes", PAPER_OF_C), [(0, BadClaim, NO_CLAIMS), (1, BadSort, NO_SORTS)])
        for sort, most in (("pipes", 4), ("leads", 4), ("hubs", 3)):
            for value in ((), None, PAPER_OF_C):
                self.assertIs(is_paper(many_greater(most), sort, value), value == ())
                assert_raises(self, is_paper, (many_greater(most + 1), sort, value), TooMany, most=most)

    def test_papers_against_the_words(self):
        draw = generator(1)
        seen = {True: 0, False: 0}
        for at in range(400):
            sort = SORTS[at % 3]
            claim = drawn_terms(draw, NAMES[:draw.randint(2, 4)], sort, draw.randint(0, 3), draw.randint(0, 2))
            word, shown = verdict(claim, sort)
            if word != "holds":
                continue
            for paper in (shown, *changed_papers(draw, shown)):
                right = paper_faults(claim, sort, paper) == []
                self.assertIs(is_paper(claim, sort, paper), right, (claim, sort, paper))
                seen[right] += 1
        self.assertGreater(min(seen.values()), 40)

    def test_costs_are_reached_just_so(self):
        # What the paper takes along an edge is just its cost, a little less, or a little more.
        for weight in (1, (1, 3), LONG, (LONG, LONG + 1)):
            for less, right in ((0, True), (Fraction(1, LONG), True), (-Fraction(1, LONG), False)):
                worth = fraction(weight)
                claim = claim_with(ABC, {("a",): worth, ("b",): worth, ("c",): less - worth})
                self.assertIs(is_paper(claim, "pipes", ((1, 0, 0, 0),)), right)
                self.assertIs(is_paper(claim, "hubs", ((1, 0, 0, 0),)), right)
                claim = claim_with(ABC, {("a",): worth, ("b",): worth, ("a", "b"): less - worth})
                self.assertIs(is_paper(claim, "leads", ((0, 1, 1, 1),)), right)

    def test_means_of_two_papers(self):
        draw = generator(2)
        found = 0
        for at in range(150):
            sort = SORTS[at % 3]
            claim = drawn_terms(draw, NAMES[:draw.randint(3, 4)], sort, 3, 1)
            turned_round = (claim[0], tuple((lot, as_number(fraction(weight) * 7)) for lot, weight in claim[1]))
            papers = [verdict(one, sort)[1] for one in (claim, turned_round) if verdict(one, sort)[0] == "holds"]
            if len(papers) < 2:
                continue
            papers.append(tuple(tuple(1 if number != 0 else 0 for number in row) for row in papers[0]))
            papers = [paper for paper in papers if is_paper(claim, sort, paper)]
            for one, other in itertools.combinations(papers, 2):
                for share in (Fraction(1, 2), Fraction(1, 3)):
                    mean = tuple(tuple(as_number(fraction(x) * share + fraction(y) * (1 - share))
                                       for x, y in zip(row, more)) for row, more in zip(one, other))
                    self.assertIs(is_paper(claim, sort, mean), True)
                    found += 1
        self.assertGreater(found, 20)


def changed_papers(draw, paper):
    """Papers with one number changed, two exchanged, one left out, rows as lists."""
    for at, row in enumerate(paper):
        place = draw.randrange(len(row))
        for number in (0, 1, (1, 2), as_number(fraction(row[place]) + Fraction(1, LONG)),
                       as_number(fraction(row[place]) - Fraction(1, LONG))):
            yield paper[:at] + (row[:place] + (number,) + row[place + 1:],) + paper[at + 1:]
        yield paper[:at] + (row[::-1],) + paper[at + 1:]
        yield paper[:at] + (row[:-1],) + paper[at + 1:]
    if len(paper) > 1:
        yield paper[::-1]
        yield paper[1:]


class CubeNetTest(unittest.TestCase):
    def test_places(self):
        places = cube_places(C, "pipes")
        self.assertEqual(list(places), list(itertools.product((0, 1), repeat=3)))
        self.assertEqual({corner: places[corner] for corner in ((1, 1, 1), (1, 0, 0), (0, 1, 0), (0, 0, 1))},
                         {(1, 1, 1): "a", (1, 0, 0): "b", (0, 1, 0): "c", (0, 0, 1): "d"})
        self.assertEqual(cube_places((ABC, ()), "pipes"), {(): "a"})
        self.assertEqual(cube_places((ABC, ((("b",), 2),)), "hubs"), {(0,): "a", (1,): "b"})
        draw = generator(3)
        for at in range(60):
            sort = SORTS[at % 3]
            taps = (NAMES, ("n0", "n1", "n15", "n2", "n3", "n4"), ("n7", "n8", "n9"))[at % 3]
            claim = drawn_terms(draw, taps, sort, 3, 1)
            places, where = cube_places(claim, sort), tap_corners(claim, sort)
            self.assertEqual(list(places), corners(claim, sort))
            self.assertEqual(len(set(places.values())), len(places))
            for corner, place in places.items():
                having = [tap for tap in taps if where[tap] == corner]
                self.assertTrue(place == having[0] if having else is_name(place) and place not in taps)

    def test_parts(self):
        claim = (ABC, ((("a",), 1), (("b",), 2)))
        widths = {((0, 0), (1, 0)): 3, ((0, 1), (1, 1)): (1, 2), ((0, 0), (0, 1)): 0}
        inner = cube_places(claim, "pipes")[(1, 1)]
        told = cube_net(claim, "pipes", widths)
        self.assertEqual(sorted(told[1]), sorted([("pipe", "a", "c", 3), ("pipe", "b", inner, (1, 2))]))
        told = cube_net(claim, "leads", widths)
        back = (9, 2)
        self.assertEqual(sorted(told[1], key=repr), sorted(
            [("lead", "a", "c", 3), ("lead", inner, "b", (1, 2)), ("lead", "c", "b", back), ("lead", "c", "a", back),
             ("lead", "b", inner, back), ("lead", "a", inner, back)], key=repr))
        told = cube_net(claim, "hubs", {**widths, ((0, 0), (1, 1)): 7})
        self.assertEqual(sorted(told[1], key=repr), sorted(
            [("hub", ("a", "c"), 3), ("hub", tuple(sorted(("b", inner))), (1, 2)),
             ("hub", tuple(sorted(("a", "b", "c", inner))), 7)], key=repr))

    def test_no_widths(self):
        self.assertEqual(cube_net(C, "pipes", {}), (ABCD, ()))
        self.assertEqual(cube_net(C, "hubs", {}), (ABCD, ()))
        taps, parts = cube_net(C, "leads", {})
        self.assertEqual((len(parts), {part[0] for part in parts}, {part[-1] for part in parts}), (12, {"lead"}, {1}))
        for sort in SORTS:
            self.assertEqual(cube_net((ABC, ()), sort, {}), (ABC, ()))

    def test_drawn_nets(self):
        draw = generator(4)
        for at in range(90):
            sort = SORTS[at % 3]
            claim = drawn_terms(draw, NAMES[:draw.randint(2, 5)], sort, draw.randint(0, 3), 1)
            cube, _ = cube_of(claim, sort)
            chosen = draw.sample(cube.spans, draw.randint(0, len(cube.spans)))
            widths = {span: draw.choice((0, 1, 2, (1, 3), LONG)) for span in chosen}
            net = cube_net(claim, sort, widths)
            self.assertIs(is_net(net), True)
            self.assertIs(is_of_sort(net, sort), True)
            self.assertEqual(net[0], claim[0])
            self.assertEqual(self.parts_told(claim, sort, widths), sorted(net[1], key=repr))
            for at_lot, lot in enumerate(cube.lots):
                most = sum((fraction(width) for (low, high), width in widths.items() if low[at_lot] != high[at_lot]),
                           Fraction(0))
                found = least_over_sides(net, lot, [tap for tap in net[0] if tap not in lot])
                self.assertLessEqual(found, most)

    def parts_told(self, claim, sort, widths):
        """The parts as [43] tells them."""
        cube, _ = cube_of(claim, sort)
        places = cube_places(claim, sort)
        parts = []
        for (low, high), width in widths.items():
            if width == 0:
                continue
            if sort == "pipes":
                parts.append(("pipe", *sorted((places[low], places[high])), width))
            elif sort == "leads":
                parts.append(("lead", places[high], places[low], width))
            else:
                parts.append(("hub", tuple(sorted(places[corner] for corner in cube.face((low, high)))), width))
        if sort == "leads":
            back = as_number(1 + sum((fraction(width) for width in widths.values()), Fraction(0)))
            parts.extend(("lead", places[low], places[high], back) for low, high in cube.spans)
        return sorted(parts, key=repr)

    def test_a_tap_that_is_not_the_place_of_its_corner_has_no_part(self):
        claim = (ABC, ((("a", "b"), 1),))
        self.assertEqual(plain_weights(claim, "pipes"), {("c",): 1})
        net = cube_net(claim, "pipes", {((0,), (1,)): 4})
        self.assertEqual(net, (ABC, (("pipe", "a", "c", 4),)))
        self.assertEqual(net_sort(cube_net(claim, "leads", {((0,), (1,)): 4})), "leads")

    def test_errors(self):
        edge = ((0, 0, 0), (0, 0, 1))
        both = ((0, 0, 0), (0, 1, 1))
        spans_wrong = (((0, 0, 1), (0, 0, 0)), ((0, 0, 0), (0, 0, 0)), ((0, 1, 0), (1, 0, 0)), ((0, 0), (0, 1)), (0, 1),
                       ((False, 0, 0), (0, 0, 1)), ((0, 0, 0), (0, 0, True)), edge + (1,), edge[:1], "ab", None, 1,
                       ((0, 0, 0), (0, 0, 2)), ((0, 0, 0), "001"), ((0, 0, 0), None), ((0, 0, 0), (0, 0, 1, 0)), ())
        wrong = (None, True, [], [(edge, 1)], (), "ab", *({span: 1} for span in spans_wrong), {both: 1},
                 {edge: 1, both: 1}, *({edge: width} for width in NO_NUMBERS_FROM_0), {edge: 1, "x": 0})
        for sort in SORTS:
            fit = wrong if sort != "hubs" else [value for value in wrong if not isinstance(value, dict) or both not in value]
            assert_errors(self, cube_net, (C, sort, {edge: 1}), [(0, BadClaim, NO_CLAIMS), (1, BadSort, NO_SORTS),
                                                                 (2, BadWidths, fit)])
        self.assertEqual(len(cube_net(C, "hubs", {both: 1})[1]), 1)
        for sort, most in (("pipes", 4), ("leads", 4), ("hubs", 3)):
            for widths in ({}, None, {"x": 1}):
                assert_raises(self, cube_net, (many_greater(most + 1), sort, widths), TooMany, most=most)
            assert_raises(self, cube_net, (many_greater(most), sort, None), BadWidths)


if __name__ == "__main__":
    unittest.main()
