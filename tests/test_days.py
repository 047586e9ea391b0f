import unittest
from fractions import Fraction

from checking import (LONG, NAMES, NO_NUMBERS, NO_SORTS, NO_TAPS, SORTS, all_lots, as_number, assert_errors, assert_new,
                      assert_raises, drawn_net, drawn_number, fraction, other_taps, plain)
from judging import generator, least_over_sides
from test_nets import HUBS, LEADS, NO_NETS, PIPES

from behindtaps.claims import is_claim
from behindtaps.days import (day_parts, day_worth, is_day_claim, is_story, plain_days, pressed_days, turned_days,
                             without_days)
from behindtaps.errors import BadDayClaim, BadSort, BadStory, BadTrend

AB = ("a", "b")
ABC = ("a", "b", "c")
PQ = ("p", "q")
P, Q = ("p",), ("q",)
TRENDS = ("same", "closed", "opened", "any")
EXAMPLE = (PQ, (((0, P), 1), ((1, P), -1)))
NO_TRENDS = (None, True, 1, "", "Same", "close", ["same"], ("same",), {})
NO_DAY_TERMS = (None, True, 1, [], [((0, P), 1)], {}, "terms", (None,), ((0, P),), ((P, 1),), (((0, P), 1, 1),), (((0, P),),),
                (((7, P), 1),), (((-1, P), 1),), (((True, P), 1),), (((None, P), 1),), ((("0", P), 1),), ((((1, 2), P), 1),),
                (((0, ()), 1),), (((0, PQ), 1),), (((0, "p"), 1),), (((0, ["p"]), 1),), (((0, ("r",)), 1),), (((0, P, 1), 1),),
                (((0, P), 0),), (([0, P], 1),), ([(0, P), 1],), (((1, P), 1), ((0, P), 1)), (((0, Q), 1), ((0, P), 1)),
                (((0, P), 1), ((0, P), 1))) + tuple((((0, P), number),) for number in NO_NUMBERS)
NO_DAY_CLAIMS = (None, True, 1, "claim", (), (PQ,), [PQ, ()], (PQ, (), ()), {}, (PQ, {})) + tuple(
    (PQ, terms) for terms in NO_DAY_TERMS) + tuple((taps, ()) for taps in NO_TAPS)


def drawn_day_claim(draw, taps, days=7, most=6, kind="whole"):
    """A day claim with these taps and at most so many terms."""
    weights = {}
    for _ in range(draw.randint(0, most)):
        weight = fraction(drawn_number(draw, kind) or 1) * draw.choice((1, -1))
        weights[draw.randrange(days), draw.choice(all_lots(taps))] = as_number(weight)
    return (taps, tuple((key, weights[key]) for key in sorted(weights)))


def story_with(net, rows):
    """The story whose parts have these widths, a row for each day."""
    return tuple((net[0], tuple(part[:-1] + (width,) for part, width in zip(net[1], row))) for row in rows)


def drawn_story(draw, taps, sort, trend, days, kind="whole"):
    """A story of the trend."""
    net = drawn_net(draw, taps, sort, 2, 7, kind)
    rows = [[fraction(drawn_number(draw, kind)) for _ in net[1]] for _ in range(days)]
    for at, row in enumerate(rows[1:], 1):
        for place in range(len(row)):
            before = rows[at - 1][place]
            if trend == "same" or draw.random() < 0.3:
                row[place] = before
            elif trend == "closed":
                row[place] = min(row[place], before)
            elif trend == "opened":
                row[place] = max(row[place], before)
    return story_with(net, [[as_number(width) for width in row] for row in rows])


def story_faults(story, trend, taps=None, sort=None, days=None):
    """What is wrong with a story of the trend by [101], its nets being nets."""
    if type(story) is not tuple or not 1 <= len(story) <= 7 or (days and len(story) != days):
        return ["days"]
    for net in story:
        kinds = {part[0] for part in net[1]}
        if taps and net[0] != taps:
            return ["taps"]
        if sort and not kinds <= {"pipe", {"pipes": "pipe", "leads": "lead", "hubs": "hub"}[sort]}:
            return ["sort"]
    for one, other in zip(story, story[1:]):
        if one[0] != other[0] or [part[:-1] for part in one[1]] != [part[:-1] for part in other[1]]:
            return ["parts"]
        for part, next_part in zip(one[1], other[1]):
            before, behind = fraction(part[-1]), fraction(next_part[-1])
            if (trend == "same" and before != behind) or (trend == "closed" and behind > before):
                return ["width"]
            if trend == "opened" and behind < before:
                return ["width"]
    return []


def counted_day_worth(claim, story):
    """The worth of the day claim, its walls counted over all sides."""
    return sum((fraction(weight) * least_over_sides(story[day], lot, other_taps(claim[0], lot))
                for (day, lot), weight in claim[1]), Fraction(0))


class StoriesTest(unittest.TestCase):
    def test_drawn_ones_and_ones_with_one_width_moved(self):
        draw = generator(241)
        moved = {trend: 0 for trend in TRENDS}
        for at in range(240):
            trend = TRENDS[at % 4]
            story = drawn_story(draw, NAMES[:draw.randint(2, 4)], SORTS[at % 3], trend, draw.randint(1, 7),
                                draw.choice(("whole", "fraction", "long")))
            for other in TRENDS:
                self.assertIs(is_story(story, other), story_faults(story, other) == [], (story, other))
            self.assertIs(is_story(story, trend), True)
            if len(story) == 1 or not story[0][1]:
                continue
            day, place = draw.randrange(len(story)), draw.randrange(len(story[0][1]))
            rows = [[part[-1] for part in net[1]] for net in story]
            rows[day][place] = as_number(fraction(rows[day][place]) + draw.choice((1, Fraction(1, LONG))))
            changed = story_with(story[0], rows)
            for other in TRENDS:
                self.assertIs(is_story(changed, other), story_faults(changed, other) == [])
            moved[trend] += not is_story(changed, trend)
        self.assertEqual(moved.pop("any"), 0)
        self.assertGreater(min(moved.values()), 15)

    def test_one_to_seven_days(self):
        for net in (PIPES, LEADS, HUBS, (AB, ())):
            for trend in TRENDS:
                for days in range(1, 8):
                    self.assertIs(is_story((net,) * days, trend), True)
                self.assertIs(is_story((net,) * 8, trend), False)
                self.assertIs(is_story((), trend), False)

    def test_what_is_none(self):
        for value in (None, True, 1, "story", [], [PIPES], PIPES, (PIPES[0], PIPES), (PIPES, None), {}):
            self.assertIs(is_story(value, "any"), False, value)
        for net in NO_NETS:
            self.assertIs(is_story((net,), "any"), False)
            self.assertIs(is_story(((AB, ()), net), "any"), False)
        pipe = (AB, (("pipe", "a", "b", 1), ("pipe", "a", "x", 1)))
        for other in ((ABC, pipe[1]), (AB, pipe[1][::-1]), (AB, pipe[1][:1]), (AB, pipe[1] * 2), (AB, ()),
                      (AB, (("lead", "a", "b", 1), pipe[1][1])), (AB, (("hub", AB, 1), pipe[1][1])),
                      (AB, (("pipe", "a", "b", 1), ("pipe", "a", "y", 1)))):
            self.assertIs(is_story((pipe, other), "any"), False)
        self.assertIs(is_story((pipe, pipe), "same"), True)

    def test_errors(self):
        for trend in NO_TRENDS:
            assert_raises(self, is_story, ((PIPES,), trend), BadTrend)
            assert_raises(self, is_story, (None, trend), BadTrend)
        self.assertIs(is_story(trend="same", value=(PIPES,)), True)


class DayClaimsTest(unittest.TestCase):
    def test_judged(self):
        draw = generator(242)
        for at in range(100):
            self.assertIs(is_day_claim(drawn_day_claim(draw, NAMES[:draw.randint(2, 6)], 7, 8, "long")), True)
        for claim in (EXAMPLE, (PQ, ()), (PQ, (((6, Q), (-1, LONG)),)), (PQ, (((0, P), 1), ((0, Q), -1), ((1, P), 2)))):
            self.assertIs(is_day_claim(value=claim), True)
        for value in NO_DAY_CLAIMS:
            self.assertIs(is_day_claim(value), False, value)
        # A claim is none, and none is a claim, unless both are empty.
        self.assertIs(is_day_claim((PQ, ((P, 1),))), False)

    def test_plain_days(self):
        draw = generator(243)
        for at in range(120):
            claim = drawn_day_claim(draw, NAMES[:draw.randint(2, 5)], 3, 10)
            sort = SORTS[at % 3]
            sums = {}
            for (day, lot), weight in claim[1]:
                key = (day, lot if sort == "leads" else plain(claim[0], lot))
                sums[key] = sums.get(key, 0) + fraction(weight)
            wanted = tuple((key, as_number(sums[key])) for key in sorted(sums) if sums[key] != 0)
            self.assertEqual(plain_days(claim, sort), (claim[0], wanted))
            self.assertIs(is_day_claim(plain_days(claim, sort)), True)
        both = (PQ, (((0, P), 1), ((0, Q), -1), ((2, P), 2), ((3, Q), (1, 2))))
        self.assertEqual(plain_days(both, "pipes"), (PQ, (((2, P), 2), ((3, P), (1, 2)))))
        self.assertEqual(plain_days(both, "leads"), both)
        assert_errors(self, plain_days, (EXAMPLE, "hubs"), [(0, BadDayClaim, NO_DAY_CLAIMS), (1, BadSort, NO_SORTS)])
        self.assertEqual(plain_days(sort="hubs", claim=EXAMPLE), EXAMPLE)

    def test_worth(self):
        draw = generator(244)
        for at in range(100):
            taps = NAMES[:draw.randint(2, 4)]
            claim = drawn_day_claim(draw, taps, 4, 5)
            story = drawn_story(draw, taps, SORTS[at % 3], "any", draw.randint(4, 7))
            self.assertEqual(day_worth(claim, story), as_number(counted_day_worth(claim, story)))
        story = drawn_story(draw, AB, "leads", "any", 5)
        claim = (AB, (((0, ("a",)), 2), ((0, ("b",)), (-1, 3)), ((4, ("b",)), 1)))
        self.assertEqual(day_worth(story=story, claim=claim), as_number(counted_day_worth(claim, story)))
        self.assertEqual(day_worth((AB, ()), story[:1]), 0)

    def test_errors_of_worth(self):
        net = (PQ, (("pipe", "p", "q", 1),))
        claim = (PQ, (((0, P), 1), ((2, P), -1)))
        wrong = (None, True, 1, [], (), [net] * 3, (net,), (net,) * 2, (net,) * 8, ((AB, ()),) * 3, (net, net, (PQ, ())),
                 (net, net, ((AB), net[1])), net, {}) + tuple((net, net, other) for other in NO_NETS)
        assert_errors(self, day_worth, (claim, (net,) * 3), [(0, BadDayClaim, NO_DAY_CLAIMS), (1, BadStory, wrong)])
        self.assertEqual(day_worth(claim, (net,) * 7), 0)
        # The days of greatest weight are asked for, whatever the trend is.
        self.assertEqual(day_worth((PQ, (((6, P), 5),)), (net,) * 7), 5)
        assert_raises(self, day_worth, ((PQ, (((6, P), 5),)), (net,) * 6), BadStory)


class TurnedTest(unittest.TestCase):
    def test_turned_and_pressed(self):
        claim = (PQ, (((1, P), 1), ((1, Q), 2), ((3, Q), (-1, 2)), ((6, P), 4)))
        self.assertEqual(turned_days(claim), (PQ, (((0, P), 4), ((3, Q), (-1, 2)), ((5, P), 1), ((5, Q), 2))))
        self.assertEqual(pressed_days(claim), (PQ, (((0, P), 1), ((0, Q), 2), ((1, Q), (-1, 2)), ((2, P), 4))))
        self.assertEqual(turned_days((PQ, (((4, P), 1),))), (PQ, (((0, P), 1),)))
        draw = generator(245)
        for at in range(100):
            claim = drawn_day_claim(draw, NAMES[:draw.randint(2, 4)], 7, 8)
            days = sorted({day for (day, _), _ in claim[1]})
            last = max(days, default=0)
            turned, pressed = turned_days(claim), pressed_days(claim)
            self.assertEqual(turned, (claim[0], tuple(sorted(((last - day, lot), weight) for (day, lot), weight in claim[1]))))
            self.assertEqual(pressed, (claim[0], tuple(((days.index(day), lot), weight) for (day, lot), weight in claim[1])))
            self.assertTrue(is_day_claim(turned) and is_day_claim(pressed))
            if days and days[0] == 0:
                self.assertEqual(turned_days(turned), claim)

    def test_without_days_and_parts(self):
        claim = (PQ, (((1, P), 1), ((1, Q), 2), ((3, Q), (-1, 2)), ((6, P), -1), ((6, Q), 1)))
        self.assertEqual(without_days(claim), (PQ, ((Q, (5, 2)),)))
        self.assertEqual(list(day_parts(claim).items()), [
            (1, (PQ, ((P, 1), (Q, 2)))), (3, (PQ, ((Q, (-1, 2)),))), (6, (PQ, ((P, -1), (Q, 1))))])
        draw = generator(246)
        for at in range(100):
            claim = drawn_day_claim(draw, NAMES[:draw.randint(2, 4)], 4, 8)
            parts = day_parts(claim)
            self.assertEqual(list(parts), sorted({day for (day, _), _ in claim[1]}))
            self.assertEqual(tuple(((day, lot), weight) for day, part in parts.items() for lot, weight in part[1]), claim[1])
            sums = {}
            for (_, lot), weight in claim[1]:
                sums[lot] = sums.get(lot, 0) + fraction(weight)
            wanted = tuple((lot, as_number(sums[lot])) for lot in sorted(sums) if sums[lot] != 0)
            self.assertEqual(without_days(claim), (claim[0], wanted))
            self.assertTrue(all(is_claim(part) for part in [without_days(claim), *parts.values()]))

    def test_empty_claims_and_errors(self):
        for function, empty in ((turned_days, (PQ, ())), (pressed_days, (PQ, ())), (without_days, (PQ, ())), (day_parts, {})):
            self.assertEqual(function((PQ, ())), empty)
            self.assertEqual(function(claim=(PQ, ())), empty)
            assert_errors(self, function, (EXAMPLE,), [(0, BadDayClaim, NO_DAY_CLAIMS)])
        assert_new(self, day_parts, (EXAMPLE,))


if __name__ == "__main__":
    unittest.main()
