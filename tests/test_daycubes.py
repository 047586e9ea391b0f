import itertools
import time
import unittest
from fractions import Fraction

from checking import (LONG, NAMES, NO_NUMBERS_FROM_0, NO_SORTS, SORTS, all_lots, as_number, assert_errors, assert_new,
                      assert_raises, error_of, fraction, net_places, other_taps, plain)
from judging import ABCD, C, Cube, generator, holding_claim
from test_cubes import changed_papers
from test_days import (EXAMPLE, NO_DAY_CLAIMS, NO_TRENDS, P, PQ, Q, TRENDS, counted_day_worth, drawn_day_claim,
                       drawn_story, story_faults)

from behindtaps.daycubes import cube_story, day_verdict, is_day_paper, trends_of
from behindtaps.days import day_parts, day_worth, is_story, plain_days, pressed_days, turned_days, without_days
from behindtaps.errors import BadDayClaim, BadSort, BadTrend, BadWidths, TooMany
from behindtaps.nets import is_net
from behindtaps.verdicts import verdict

CAN_MOVE = {"same": lambda own, day: True, "closed": lambda own, day: own <= day, "opened": lambda own, day: own >= day,
            "any": lambda own, day: own == day}


def day_cube(claim, sort):
    """The cube, the days of its directions, and the lesser terms [(day, lot, weight)] of the plain form."""
    sums = {}
    for (day, lot), weight in claim[1]:
        key = (day, lot if sort == "leads" else plain(claim[0], lot))
        sums[key] = sums.get(key, 0) + fraction(weight)
    terms = [(day, lot, sums[day, lot]) for day, lot in sorted(sums) if sums[day, lot] != 0]
    cube = Cube(claim[0], sort, [(lot, weight) for _, lot, weight in terms if weight > 0])
    return cube, [day for day, _, weight in terms if weight > 0], [(day, lot, -w) for day, lot, w in terms if w < 0]


def day_paper_faults(claim, sort, trend, paper):
    """What is wrong with a day paper by [102]."""
    cube, days, lesser = day_cube(claim, sort)
    faults = cube.faults([(lot, other_taps(claim[0], lot), weight) for _, lot, weight in lesser], paper)
    if faults:
        return faults
    for (day, _, _), row in zip(lesser, paper):
        told = dict(zip(cube.corners, row))
        for low, high in cube.spans:
            along = [at for at in range(len(low)) if low[at] != high[at]]
            if len(along) == 1 and not CAN_MOVE[trend](days[along[0]], day) and told[low] != told[high]:
                faults.append(("moved", low, high))
    return faults


def last_day(claim):
    return max((day for (day, _), _ in claim[1]), default=0)


def assert_day_verdict(case, claim, sort, trend, word=None):
    answer, shown = day_verdict(claim, sort, trend)
    if word:
        case.assertEqual(answer, word, (claim, sort, trend))
    if answer == "holds":
        case.assertEqual(day_paper_faults(claim, sort, trend, shown), [], (claim, sort, trend))
        case.assertIs(is_day_paper(claim, sort, trend, shown), True)
    else:
        case.assertEqual(answer, "breaks")
        case.assertTrue(all(is_net(net) for net in shown))
        case.assertEqual(story_faults(shown, trend, claim[0], sort, last_day(claim) + 1), [], (claim, sort, trend))
        case.assertIs(is_story(shown, trend), True)
        case.assertLess(counted_day_worth(claim, shown), 0, (claim, sort, trend))
        case.assertEqual(day_worth(claim, shown), as_number(counted_day_worth(claim, shown)))
    return answer


def with_days(draw, claim, days=3):
    """The claim on drawn days; most often greater terms come ahead of lesser ones, or behind them."""
    way = draw.choice(("closed", "opened", "one", "mixed"))
    terms = {}
    middle = draw.randrange(days)
    for lot, weight in claim[1]:
        day = draw.randrange(days)
        if way == "one":
            day = middle
        elif way != "mixed" and days > 1:
            early = (fraction(weight) > 0) == (way == "closed")
            day = draw.randint(0, middle) if early else draw.randint(middle, days - 1)
        terms[day, lot] = weight
    return (claim[0], tuple((key, terms[key]) for key in sorted(terms)))


def drawn_holding(draw, at, taps=None):
    """A claim on days of which the claim without days holds."""
    while True:
        sort = SORTS[at % 3]
        names = taps or NAMES[:draw.randint(2, 4)]
        claim = with_days(draw, holding_claim(draw, names, sort), draw.choice((1, 2, 3, 7)))
        if not too_many(claim, sort):
            return sort, claim


def too_many(claim, sort):
    return isinstance(error_of(day_verdict, (claim, sort, "any")), TooMany)


class DayVerdictTest(unittest.TestCase):
    def test_the_example(self):
        self.assertEqual(day_verdict(EXAMPLE, "pipes", "same"), ("holds", ((0, 1),)))
        self.assertEqual(day_verdict(EXAMPLE, "pipes", "closed"), ("holds", ((0, 1),)))
        for sort in SORTS:
            for trend, word in (("same", "holds"), ("closed", "holds"), ("opened", "breaks"), ("any", "breaks")):
                assert_day_verdict(self, EXAMPLE, sort, trend, word)
                self.assertIs(is_day_paper(EXAMPLE, sort, trend, ((0, 1),)), word == "holds")
            self.assertEqual(trends_of(EXAMPLE, sort), ["same", "closed"])
        opened = ((PQ, (("pipe", "p", "q", 0),)), (PQ, (("pipe", "p", "q", 1),)))
        self.assertIs(is_story(opened, "opened"), True)
        self.assertEqual(day_worth(EXAMPLE, opened), -1)

    def test_drawn_ones(self):
        draw = generator(251)
        words = {}
        for at in range(420):
            sort = SORTS[at % 3]
            claim = drawn_day_claim(draw, NAMES[:draw.randint(2, 4)], draw.choice((1, 2, 3, 7)), 5,
                                    draw.choice(("whole", "fraction")))
            if at % 2:
                sort, claim = drawn_holding(draw, at)
            if too_many(claim, sort):
                continue
            told = {trend: assert_day_verdict(self, claim, sort, trend) for trend in TRENDS}
            self.assertEqual(trends_of(claim, sort), [trend for trend in TRENDS if told[trend] == "holds"])
            self.assert_facts(claim, sort, told)
            words[tuple(told.values())] = words.get(tuple(told.values()), 0) + 1
        self.assertGreaterEqual(len(words), 6, words)

    def assert_facts(self, claim, sort, told):
        """The facts of [105]."""
        if told["any"] == "holds":
            self.assertEqual(set(told.values()), {"holds"})
        if "holds" in (told["closed"], told["opened"]):
            self.assertEqual(told["same"], "holds")
        self.assertEqual(told["same"], verdict(without_days(claim), sort)[0])
        parts = day_parts(claim).values()
        self.assertEqual(told["any"] == "holds", all(verdict(part, sort)[0] == "holds" for part in parts))
        turned = turned_days(claim)
        self.assertEqual(told["closed"], day_verdict(turned, sort, "opened")[0])
        self.assertEqual(told["opened"], day_verdict(turned, sort, "closed")[0])
        greater = [day for (day, _), weight in claim[1] if fraction(weight) > 0]
        lesser = [day for (day, _), weight in claim[1] if fraction(weight) < 0]
        if not greater or not lesser or max(greater) <= min(lesser):
            self.assertEqual(told["closed"], told["same"])
        for trend in TRENDS:
            for other in (plain_days(claim, sort), pressed_days(claim)):
                self.assertEqual(day_verdict(other, sort, trend)[0], told[trend])

    def test_papers_of_one_trend_for_others(self):
        draw = generator(252)
        found = 0
        for at in range(120):
            sort, claim = drawn_holding(draw, at)
            for trend, others in (("any", TRENDS), ("closed", ("same", "closed")), ("opened", ("same", "opened"))):
                word, paper = day_verdict(claim, sort, trend)
                if word == "holds":
                    found += 1
                    for other in others:
                        self.assertIs(is_day_paper(claim, sort, other, paper), True)
        self.assertGreater(found, 60)

    def test_greater_terms_earlier_and_lesser_ones_later(self):
        draw = generator(253)
        found = 0
        for at in range(150):
            sort, claim = drawn_holding(draw, at)
            if not claim[1] or day_verdict(claim, sort, "closed")[0] == "breaks":
                continue
            (day, lot), weight = term = draw.choice(claim[1])
            new = day - 1 if fraction(weight) > 0 else day + 1
            moved = tuple(sorted([one for one in claim[1] if one != term] + [((new, lot), weight)]))
            if not 0 <= new <= 6 or any(key == (new, lot) for key, _ in claim[1]) or too_many((claim[0], moved), sort):
                continue
            assert_day_verdict(self, (claim[0], moved), sort, "closed", "holds")
            found += 1
        self.assertGreater(found, 50)

    def test_stories_do_not_break_what_holds(self):
        draw = generator(254)
        for at in range(120):
            sort, claim = drawn_holding(draw, at)
            for trend in trends_of(claim, sort):
                story = drawn_story(draw, claim[0], sort, trend, draw.randint(last_day(claim) + 1, 7))
                self.assertGreaterEqual(counted_day_worth(claim, story), 0)

    def test_known_ones(self):
        four = tuple(((0, lot), weight) for lot, weight in C[1])
        for trend in TRENDS:
            assert_day_verdict(self, (ABCD, ()), "pipes", trend, "holds")
            assert_day_verdict(self, (PQ, (((3, P), 1),)), "leads", trend, "holds")
            assert_day_verdict(self, (PQ, (((3, P), -1),)), "hubs", trend, "breaks")
            assert_raises(self, day_verdict, ((ABCD, four), "pipes", trend), TooMany, most=3)
        # Whoever takes the greater lots from day 0 and the lesser ones from day 1 needs that pipes are only closed.
        terms = (((0, ("a",)), 1), ((0, ("b",)), 1), ((1, ("a", "b")), -1))
        claim = (("a", "b", "c"), tuple(sorted(terms)))
        for sort in SORTS:
            self.assertEqual(trends_of(claim, sort), ["same", "closed"])
        # A lot and its opposite: for leads two walls.
        self.assertEqual(trends_of((PQ, (((0, P), 1), ((0, Q), -1))), "pipes"), list(TRENDS))
        self.assertEqual(trends_of((PQ, (((0, P), 1), ((0, Q), -1))), "leads"), [])
        # One greater term on the day between: each half of it is enough for one way alone.
        between = (PQ, (((0, P), -1), ((1, P), 2), ((2, P), -1)))
        self.assertEqual(trends_of(between, "pipes"), ["same"])
        self.assertEqual(trends_of((PQ, (((0, P), 1), ((1, P), -2), ((2, P), 1))), "pipes"), ["same"])
        self.assertEqual(trends_of((PQ, (((0, P), 1), ((1, P), -1), ((2, P), 1))), "hubs"), ["same", "closed", "opened"])

    def test_just_so_and_a_little_less(self):
        for sort in SORTS:
            for more, trends in ((Fraction(0), ["same", "closed"]), (Fraction(1, LONG), [])):
                claim = (PQ, (((0, P), 1), ((2, P), (-1, 2)), ((5, P), as_number(Fraction(-1, 2) - more))))
                self.assertEqual(trends_of(claim, sort), trends)
                for trend in TRENDS:
                    assert_day_verdict(self, claim, sort, trend)

    def test_days_from_0_to_6(self):
        for day in range(7):
            for other in range(7):
                if day == other:
                    continue
                claim = (PQ, tuple(sorted([((day, P), 1), ((other, P), -1)])))
                way = "closed" if day < other else "opened"
                self.assertEqual(trends_of(claim, "pipes"), ["same", way])
                assert_day_verdict(self, claim, "pipes", "any", "breaks")

    def test_errors(self):
        trends = [(0, BadDayClaim, NO_DAY_CLAIMS), (1, BadSort, NO_SORTS), (2, BadTrend, NO_TRENDS)]
        assert_errors(self, day_verdict, (EXAMPLE, "pipes", "same"), trends)
        assert_errors(self, is_day_paper, (EXAMPLE, "pipes", "same", None), trends)
        assert_errors(self, cube_story, (EXAMPLE, "pipes", "same", {}), trends + [(3, BadWidths, (None, True, [], {1: 1}))])
        assert_errors(self, trends_of, (EXAMPLE, "pipes"), trends[:2])
        self.assertEqual(day_verdict(trend="same", sort="pipes", claim=EXAMPLE), ("holds", ((0, 1),)))
        self.assertIs(is_day_paper(value=((0, 1),), trend="same", sort="pipes", claim=EXAMPLE), True)
        assert_new(self, trends_of, (EXAMPLE, "pipes"))

    def test_three_directions_and_three_lesser_terms(self):
        lots = [("a",), ("b",), ("c",), ("d",)]
        for sort in SORTS:
            for side in (1, -1):
                three = (ABCD, tuple(((1, lot), side) for lot in lots[:3]))
                four = (ABCD, tuple(((1, lot), side) for lot in lots))
                self.assertIn(day_verdict(three, sort, "any")[0], ("holds", "breaks"))
                for function, more in ((day_verdict, ("any",)), (is_day_paper, ("any", None)), (cube_story, ("any", None)),
                                       (trends_of, ())):
                    assert_raises(self, function, (four, sort, *more), TooMany, most=3)
        # The plain form counts: a lot and its opposite on one day are one term, or none.
        both = (ABCD, tuple(sorted([((0, lot), 1) for lot in lots[:3]] + [((0, ("b", "c", "d")), 1)])))
        self.assertEqual(day_verdict(both, "hubs", "any")[0], "holds")
        assert_raises(self, day_verdict, (both, "leads", "any"), TooMany, most=3)
        # On another day it is another direction.
        other = (ABCD, tuple(sorted([((0, lot), 1) for lot in lots[:3]] + [((1, ("b", "c", "d")), 1)])))
        assert_raises(self, day_verdict, (other, "hubs", "any"), TooMany, most=3)

    def test_slowest_answers(self):
        draw = generator(255)
        started = time.process_time()
        for sort in SORTS:
            for kind in range(4):
                lots = draw.sample(all_lots(NAMES), 6)
                days = draw.sample(range(7), 6)
                weights = [as_number(Fraction(draw.randint(1, LONG), draw.randint(1, LONG)) * (30 if at < 3 else -1))
                           for at in range(6)]
                claim = (NAMES, tuple(sorted(((day, lot), weight) for day, lot, weight in zip(days, lots, weights))))
                for trend in TRENDS:
                    word, shown = day_verdict(claim, sort, trend)
                    if word == "holds":
                        self.assertEqual(day_paper_faults(claim, sort, trend, shown), [])
                    else:
                        self.assertLess(fraction(day_worth(claim, shown)), 0)
        self.assertLess(time.process_time() - started, 60)


class DayPaperTest(unittest.TestCase):
    def test_papers_with_one_number_changed(self):
        draw = generator(256)
        seen = []
        for at in range(150):
            sort, claim = drawn_holding(draw, at)
            for trend in trends_of(claim, sort):
                paper = day_verdict(claim, sort, trend)[1]
                for value in changed_papers(draw, paper):
                    for other in TRENDS:
                        try:
                            wanted = day_paper_faults(claim, sort, other, value) == []
                        except AssertionError:
                            wanted = False
                        self.assertIs(is_day_paper(claim, sort, other, value), wanted, (claim, sort, other, value))
                        seen.append(wanted)
        self.assertGreater(seen.count(True), 30)
        self.assertGreater(seen.count(False), 500)

    def test_what_is_none(self):
        for value in (None, True, 1, [], (), [(0, 1)], ([0, 1],), ((0, 1), (0, 1)), ((0,),), ((0, 1, 1),), ((False, True),),
                      ((1, 0),), ((0, (2, 2)),), ((0, 2),), ((0, "1"),), {}, "paper"):
            self.assertIs(is_day_paper(EXAMPLE, "pipes", "same", value), False, value)
        self.assertIs(is_day_paper((PQ, ()), "hubs", "any", ()), True)
        self.assertIs(is_day_paper((PQ, (((0, P), 1),)), "hubs", "any", ()), True)
        self.assertIs(is_day_paper((PQ, (((0, P), 1),)), "hubs", "any", ((0, 1),)), False)

    def test_numbers_must_stay_along_what_does_not_move(self):
        # Two directions on the days 0 and 2; the lesser term on day 1 is moved by one of them, or by both.
        claim = (PQ, (((0, P), 1), ((1, P), -1), ((2, P), 1)))
        along_first, along_second, mixed = ((0, 0, 1, 1),), ((0, 1, 0, 1),), ((0, (1, 2), (1, 2), 1),)
        for trend, papers in (("same", (along_first, along_second, mixed)), ("closed", (along_first,)),
                              ("opened", (along_second,)), ("any", ())):
            for paper in (along_first, along_second, mixed):
                self.assertIs(is_day_paper(claim, "pipes", trend, paper), paper in papers)
                self.assertEqual(day_paper_faults(claim, "pipes", trend, paper) == [], paper in papers)


class CubeStoryTest(unittest.TestCase):
    def assert_story(self, claim, sort, trend, widths):
        """The parts of each day are just those of [104]."""
        story = cube_story(claim, sort, trend, widths)
        self.assertEqual(story_faults(story, trend, claim[0], sort, last_day(claim) + 1), [], (claim, sort, trend))
        cube, days, _ = day_cube(claim, sort)
        wide = as_number(1 + sum(map(fraction, widths.values()), Fraction(0)))
        places = {}
        for tap in reversed(claim[0]):
            places[cube.corner(tap)] = tap
        used = net_places(story[0])
        free = [corner for corner in cube.corners if corner not in places]
        others = [place for place in used if place not in claim[0]]
        self.assertEqual(len(others), len(free) if len(cube.corners) > 1 else 0)
        # Which of the new names is the place of which corner is open; one order of them must fit.
        wanted = [self.parts_of(cube, days, trend, day, widths, wide) for day in range(len(story))]
        fits = [names for names in itertools.permutations(others)
                if self.fits(story, wanted, {**places, **dict(zip(free, names))})]
        self.assertNotEqual(fits, [], (claim, sort, trend, widths))
        return story

    def parts_of(self, cube, days, trend, day, widths, wide):
        """What lies between which corners on a day."""
        parts = []
        edges = [span for span in cube.spans if sum(span[1]) - sum(span[0]) == 1]
        for span in cube.spans:
            if widths.get(span, 0) != 0:
                corners = cube.face(span) if cube.sort == "hubs" else list(span)
                parts.append(({"pipes": "pipe", "leads": "lead", "hubs": "hub"}[cube.sort], corners[::-1], widths[span]))
        for low, high in edges:
            if cube.sort == "leads":
                parts.append(("lead", [low, high], wide))
            own = days[[at for at in range(len(low)) if low[at] != high[at]][0]]
            bypassed = {"same": False, "closed": day < own, "opened": day > own, "any": day != own}[trend]
            parts.append(("pipe", [low, high], wide if bypassed else 0))
        return parts

    def fits(self, story, wanted, places):
        """Whether each day has just these parts."""
        for net, parts in zip(story, wanted):
            told = []
            for kind, corners, width in parts:
                names = [places[corner] for corner in corners]
                names = names if kind == "lead" else sorted(names)
                told.append((kind, tuple(names), width) if kind == "hub" else (kind, *names, width))
            if sorted(map(repr, net[1])) != sorted(map(repr, told)):
                return False
        return True

    def drawn_widths(self, draw, cube, kind):
        chosen = draw.sample(cube.spans, draw.randint(0, min(6, len(cube.spans))))
        return {span: draw.choice((0, 1, 2, (1, 3), (LONG, LONG + 1) if kind else 5)) for span in chosen}

    def test_drawn_ones(self):
        draw = generator(257)
        for at in range(120):
            sort, trend = SORTS[at % 3], TRENDS[at % 4]
            claim = drawn_day_claim(draw, NAMES[:draw.randint(3, 6)], 4, 4)
            if too_many(claim, sort):
                continue
            cube, days, _ = day_cube(claim, sort)
            widths = self.drawn_widths(draw, cube, at % 2)
            story = self.assert_story(claim, sort, trend, widths)
            # The wall of a direction on its day is at most the sum of the widths along it.
            for at_direction, (lot, day) in enumerate(zip(cube.lots, days)):
                along = sum((fraction(width) for (low, high), width in widths.items()
                             if low[at_direction] != high[at_direction]), Fraction(0))
                worth = counted_day_worth((claim[0], (((day, lot), 1),)), story)
                self.assertLessEqual(worth, along)

    def test_the_example(self):
        span = ((0,), (1,))
        for trend, wides in (("same", [0, 0]), ("closed", [0, 0]), ("opened", [0, 4]), ("any", [0, 4])):
            story = cube_story(EXAMPLE, "pipes", trend, {span: 3})
            self.assertEqual([sorted(net[1]) for net in story],
                             [sorted([("pipe", "p", "q", 3), ("pipe", "p", "q", wide)]) for wide in wides])
            leads = cube_story(EXAMPLE, "leads", trend, {span: 3})
            self.assertEqual([sorted(net[1]) for net in leads],
                             [sorted([("lead", "p", "q", 3), ("lead", "q", "p", 4), ("pipe", "p", "q", wide)])
                              for wide in wides])
        self.assertEqual(cube_story((PQ, ()), "pipes", "any", {}), ((PQ, ()),))
        self.assertEqual(cube_story((PQ, (((2, P), -1),)), "leads", "any", {}), ((PQ, ()),) * 3)
        # The days are those of the claim as it is passed, also where its plain form has none.
        gone = (PQ, (((3, P), 1), ((3, Q), -1)))
        self.assertEqual(cube_story(gone, "hubs", "same", {}), ((PQ, ()),) * 4)
        self.assertEqual(cube_story(widths={}, trend="same", sort="hubs", claim=gone), ((PQ, ()),) * 4)

    def test_widths(self):
        edge = ((0,), (1,))
        wrong = (None, True, 1, [], "widths", {edge[0]: 1}, {(edge[1], edge[0]): 1}, {((0,), (0,)): 1}, {((0,), (2,)): 1},
                 {((False,), (1,)): 1}, {((0, 0), (1, 1)): 1}, {"": 1}, {((0,), (1,), (1,)): 1}) + tuple(
                     {edge: number} for number in NO_NUMBERS_FROM_0)
        for widths in wrong:
            assert_raises(self, cube_story, (EXAMPLE, "pipes", "any", widths), BadWidths)
        two = (PQ, (((0, P), 1), ((1, P), 1)))
        long_span = ((0, 0), (1, 1))
        self.assert_story(two, "hubs", "closed", {long_span: 2})
        for sort in ("pipes", "leads"):
            assert_raises(self, cube_story, (two, sort, "closed", {long_span: 2}), BadWidths)
        self.assert_story(two, "pipes", "closed", {})
        self.assert_story(two, "leads", "opened", {((0, 0), (0, 1)): 0, ((0, 1), (1, 1)): (1, 2)})


if __name__ == "__main__":
    unittest.main()
