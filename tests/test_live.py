import copy
import itertools
import time
import unittest
from fractions import Fraction

from checking import (LONG, NAMES, NO_NUMBERS, NO_SORTS, NO_TAPS, SORTS, all_lots, as_number, assert_errors, assert_raises,
                      error_of, fraction, keys_of)
from housing import (NEVER, agree, drawn_entry, drawn_house, drawn_terms, facts_of, hidden_net, house_of, kept_entry, put)
from judging import ABCD, counted_worth, generator
from telling import REACH, keeping_faults, reason_faults
from test_claims import NO_TERMS_OF_CLAIMS
from test_verdicts import NO_LOTS

from behindtaps.errors import BadLot, BadNumber, BadSort, BadTaps, BadTerms, Clash, NoEntry, TapError, TooMany
from behindtaps.facts import follows
from behindtaps.live import House
from behindtaps.ranges import range_of, ranges, settled

AB = ("a", "b")
ABC = ("a", "b", "c")
A, B, CC = ("a",), ("b",), ("c",)


def state(house):
    """All that can be seen of a house without working anything out."""
    return copy.deepcopy((house.taps, house.of_sort, house.entries(), house.facts(), house.log(), len(house)))


class Led:
    """The list that a test leads beside a house."""

    def __init__(self, taps, sort):
        self.taps, self.sort = taps, sort
        self.entries, self.log, self.left = [], [], []

    def put(self, entry):
        """The kind of error that is expected, or None if the entry is taken."""
        if len(self.entries) == 15:
            return TooMany
        if not agree(self.taps, self.sort, facts_of(self.entries + [entry])):
            return Clash
        self.entries.append(entry)
        self.log.append(entry)
        self.left = []
        return None

    def back(self):
        if not self.entries:
            return NoEntry
        self.left.append(self.entries.pop())
        self.log.append(("back",))
        return None

    def again(self):
        if not self.left:
            return NoEntry
        self.entries.append(self.left.pop())
        self.log.append(("again",))
        return None


class LeadingTest(unittest.TestCase):
    def assert_same(self, house, led):
        self.assertEqual(state(house), (led.taps, led.sort, led.entries, facts_of(led.entries), led.log, len(led.entries)))

    def test_rows_of_all_kinds(self):
        draw = generator(291)
        seen = {}
        for at in range(60):
            net = hidden_net(draw, SORTS[at % 3])
            house, led = House(net[0], SORTS[at % 3]), Led(net[0], SORTS[at % 3])
            kept_too = None
            for _ in range(30):
                step = draw.choice(("put", "put", "drawn", "back", "again", "copy"))
                before = state(house)
                if step == "copy":
                    kept_too = (house.copy(), state(house), list(led.left))
                    self.assertEqual(kept_too[0], house)
                    continue
                if step in ("put", "drawn"):
                    entry = kept_entry(draw, net) if step == "put" else drawn_entry(draw, net[0])
                    wanted, error = led.put(entry), error_of(put, (house, entry))
                    if type(error) is Clash:
                        facts = facts_of(led.entries + [entry])
                        self.assertEqual(reason_faults(net[0], facts, SORTS[at % 3], NEVER, error.weights), [])
                else:
                    wanted, error = getattr(led, step)(), error_of(getattr(house, step), ())
                self.assertIs(type(error) if error else None, wanted, (step, led.entries))
                seen[step, wanted] = seen.get((step, wanted), 0) + 1
                if wanted:
                    self.assertEqual(state(house), before)
                self.assert_same(house, led)
            if kept_too:
                self.assertEqual(state(kept_too[0]), kept_too[1])
                for entry in kept_too[2][::-1]:
                    self.assertIsNone(kept_too[0].again())
                    self.assertEqual(kept_too[0].entries()[-1], entry)
                assert_raises(self, kept_too[0].again, (), NoEntry)
        for step in (("put", None), ("drawn", Clash), ("back", None), ("back", NoEntry), ("again", None), ("again", NoEntry)):
            self.assertGreater(seen[step], 10, step)

    def test_attributes_and_what_is_new(self):
        house = House(AB, "hubs")
        self.assertEqual((house.taps, house.of_sort, house.entries(), house.facts(), house.log(), len(house)),
                         (AB, "hubs", [], [], [], 0))
        for function in (house.measure, house.tell, house.back, house.again):
            arguments = {house.measure: (A, (3, 2)), house.tell: (((A, 1),), 1)}.get(function, ())
            self.assertIsNone(function(*arguments))
        self.assertEqual(house.entries(), [("measure", A, (3, 2)), ("tell", ((A, 1),), 1)])
        self.assertEqual(house.facts(), [(((A, 1),), (3, 2)), (((A, -1),), (-3, 2)), (((A, 1),), 1)])
        self.assertEqual(house.log(), house.entries() + [("back",), ("again",)])
        for function in (house.entries, house.facts, house.log):
            told = function()
            told.append(None)
            self.assertEqual(function(), told[:-1])
        self.assertEqual(House(taps=AB, sort="leads"), House(AB, "leads"))
        house.tell(bound=0, terms=())
        house.measure(number=(3, 2), lot=B)
        self.assertEqual(len(house), 4)

    def test_what_again_adds(self):
        house = House(AB, "pipes")
        for bound in (1, 2, 3):
            house.tell(((A, 1),), bound)
        house.back()
        house.back()
        house.again()
        self.assertEqual([bound for _, _, bound in house.entries()], [1, 2])
        # What raises an error leaves what can be added again.
        assert_raises(self, house.tell, (((A, -1),), 0), Clash)
        assert_raises(self, house.tell, (None, 0), BadTerms)
        house.again()
        self.assertEqual([bound for _, _, bound in house.entries()], [1, 2, 3])
        assert_raises(self, house.again, (), NoEntry)
        house.back()
        house.back()
        house.tell(((A, 1),), 4)
        assert_raises(self, house.again, (), NoEntry)
        self.assertEqual([bound for _, _, bound in house.entries()], [1, 4])
        house.back()
        house.back()
        assert_raises(self, house.back, (), NoEntry)
        house.again()
        self.assertEqual([bound for _, _, bound in house.entries()], [1])
        self.assertEqual(len(house.log()), 13)

    def test_a_clash(self):
        house = House(ABC, "pipes")
        house.measure(A, 3)
        house.measure(B, 1)
        error = error_of(house.measure, (CC, 5))
        self.assertIs(type(error), Clash)
        facts = facts_of([("measure", A, 3), ("measure", B, 1), ("measure", CC, 5)])
        self.assertEqual(reason_faults(ABC, facts, "pipes", NEVER, error.weights), [])
        for number, kind in ((4, None), (2, None), ((LONG * 4 + 1, LONG), Clash), ((LONG * 2 - 1, LONG), Clash), (-1, Clash)):
            other = house.copy()
            error = error_of(other.measure, (CC, number))
            self.assertIs(type(error) if error else None, kind)
        assert_raises(self, House(AB, "hubs").tell, ((), (1, LONG)), Clash)
        assert_raises(self, House(AB, "leads").measure, (B, -1), Clash)
        self.assertIsNone(House(AB, "leads").tell((), 0))

    def test_equality_and_kinds(self):
        one, two = House(AB, "pipes"), House(AB, "pipes")
        one.tell((), 0)
        self.assertNotEqual(one, two)
        two.tell((), -1)
        self.assertNotEqual(one, two)
        two.back()
        two.tell((), 0)
        # The log may be another one.
        self.assertEqual(one, two)
        self.assertNotEqual(one.log(), two.log())
        self.assertNotEqual(House(AB, "pipes"), House(AB, "hubs"))
        self.assertNotEqual(House(AB, "pipes"), House(ABC, "pipes"))
        for other in (None, 0, 1, True, "house", [], (), {}, one.entries(), AB):
            self.assertFalse(one == other)
            self.assertTrue(one != other)
        assert_raises(self, lambda: iter_of(one), (), IterError)
        three = House(AB, "pipes")
        three.measure(A, 1)
        three.measure(B, 1)
        four = House(AB, "pipes")
        four.measure(B, 1)
        four.measure(A, 1)
        self.assertNotEqual(three, four)

    def test_errors(self):
        for taps in NO_TAPS:
            for sort in (*NO_SORTS[:3], "pipes"):
                assert_raises(self, House, (taps, sort), BadTaps)
        for sort in NO_SORTS:
            assert_raises(self, House, (AB, sort), BadSort)
        house = House(ABC, "pipes")
        for number in range(3):
            house.measure(A, 2)
        house.back()
        before = state(house)
        sums = [(0, BadTerms, NO_TERMS_OF_CLAIMS), (1, BadNumber, NO_NUMBERS)]
        lots = [lot for lot in NO_LOTS if lot != ("a", "b", "c", "d")] + [ABC, ABCD]
        for function, right, wrong in ((house.follows, (((A, 1),), 1), sums), (house.conflicts, (((A, 1),), 1), sums),
                                       (house.ways_out, (((A, 1),), 1), sums), (house.range_of, (A,), [(0, BadLot, lots)])):
            assert_errors(self, function, right, wrong)
        for values, more in ((NO_TERMS_OF_CLAIMS, (1, None)), ((((A, 1),),), NO_NUMBERS)):
            for terms, bound in itertools.product(values, more):
                kind = BadTerms if values is NO_TERMS_OF_CLAIMS else BadNumber
                for function in (house.tell, house.follows, house.conflicts, house.ways_out):
                    assert_raises(self, function, (terms, bound), kind)
        for lot, number in itertools.product(lots, (1, None)):
            assert_raises(self, house.measure, (lot, number), BadLot)
        for number in NO_NUMBERS:
            assert_raises(self, house.measure, (A, number), BadNumber)
        self.assertEqual(state(house), before)
        house.again()
        self.assertEqual(len(house), 3)

    def test_fifteen_entries(self):
        for sort in SORTS:
            house = House(NAMES[:REACH[sort]], sort)
            for _ in range(15):
                house.measure(A, 1)
            before = state(house)
            for function, right, wrong, kind in ((house.measure, (A, 1), (None, 1), BadLot), (house.tell, ((), 0), ((), None), BadNumber)):
                assert_raises(self, function, right, TooMany, most=15)
                assert_raises(self, function, wrong, kind)
            assert_raises(self, house.measure, (A, 2), TooMany, most=15)
            self.assertEqual(state(house), before)
            self.assertEqual(len(house.facts()), 30)
            house.back()
            house.tell((), -1)
            assert_raises(self, house.tell, ((), 0), TooMany, most=15)

    def test_beyond_the_reach(self):
        for sort, most in (("pipes", 3), ("leads", 3), ("hubs", 2)):
            taps = NAMES[:6]
            house = House(taps, sort)
            lots = [("a",), ("b",), ("c",), ("d",)]
            for lot in lots[:most]:
                house.measure(lot, 5)
            before = state(house)
            assert_raises(self, house.measure, (lots[most], 5), TooMany, most=most)
            # It is told also where the facts would clash.
            assert_raises(self, house.measure, (lots[most], -5), TooMany, most=most)
            assert_raises(self, house.tell, (((lots[most], -1),), 0), TooMany, most=most)
            self.assertEqual(state(house), before)
            if most == 3:
                assert_raises(self, house.tell, (((lots[3], 1),), 0), TooMany, most=3)
            else:
                house.tell(((lots[2], 1),), 4)
                assert_raises(self, house.tell, (((lots[3], 1),), 0), TooMany, most=3)
            assert_raises(self, house.range_of, (("e",),), TooMany, most=most)
            assert_raises(self, house.ranges, (), TooMany, most=most)
            assert_raises(self, house.settled, (), TooMany, most=most)
            assert_raises(self, house.follows, (((("e",), 1),), 0), TooMany, most=most)
            assert_raises(self, house.follows, (((("e",), -1),), 0), TooMany, most=3)
            assert_raises(self, house.conflicts, (((("e",), -1),), 0), TooMany, most=most)
            assert_raises(self, house.ways_out, (((("e",), -1),), 0), TooMany, most=most)
            self.assertEqual(house.range_of(("a",)), (5, 5))
            self.assertEqual(house.follows(((("a",), 2),), 10)[0], "follows")
            self.assertEqual(house.conflicts(((("a",), 1),), 6), [(0,)])
            self.assertEqual(keeping_faults(house.net(), taps, sort, house.facts()), [])


class IterError(TapError):
    pass


def iter_of(value):
    """Raises IterError where a value cannot be iterated over."""
    try:
        iter(value)
    except TypeError:
        raise IterError from None


class AnswersTest(unittest.TestCase):
    def test_answers_are_those_of_the_facts(self):
        draw = generator(292)
        for at in range(45):
            sort = SORTS[at % 3]
            net, house = drawn_house(draw, sort, 6)
            taps, facts = net[0], facts_of(house.entries())
            before = state(house)
            self.assertEqual(house.ranges(), ranges(taps, facts, sort))
            self.assertEqual(house.settled(), settled(taps, facts, sort))
            self.assertEqual(keeping_faults(house.net(), taps, sort, facts), [])
            for lot in all_lots(taps):
                low, high = house.range_of(lot)
                self.assertEqual((low, high), range_of(taps, facts, sort, lot))
                # TRUTH: the walls of a net that keeps all that is told are within their ranges.
                own = counted_worth((taps, ((lot, 1),)), net)
                self.assertTrue(fraction(low) <= own and (high is None or own <= fraction(high)))
            for _ in range(3):
                terms, bound = drawn_terms(draw, taps), draw.choice((-3, -1, 0, 1, (1, 2)))
                told = house.follows(terms, bound)
                self.assertEqual(told[0], follows(taps, facts, sort, (terms, bound))[0])
                self.assert_follows(taps, sort, facts, (terms, bound), told)
            self.assertEqual(house.follows(bound=-1, terms=())[0], "follows")
            self.assertEqual(state(house), before)
            self.assertEqual(list(house.ranges()), keys_of(taps, sort))

    def assert_follows(self, taps, sort, facts, fact, told):
        if told[0] == "follows":
            self.assertEqual(reason_faults(taps, facts, sort, fact, told[1]), [])
            self.assertEqual(keeping_faults(told[2], taps, sort, [*facts, fact]), [])
        else:
            self.assertEqual(told[0], "breaks")
            self.assertEqual(keeping_faults(told[1], taps, sort, facts), [])
            self.assertLess(counted_worth((taps, fact[0]), told[1]), fraction(fact[1]))

    def test_order(self):
        draw = generator(293)
        for at in range(40):
            sort = SORTS[at % 3]
            net, house = drawn_house(draw, sort, 5)
            entries = house.entries()
            mixed = draw.sample(entries, len(entries))
            other = house_of(net[0], sort, mixed)
            self.assertEqual(other.ranges(), house.ranges())
            self.assertEqual(other.settled(), house.settled())
            terms = drawn_terms(draw, net[0])
            self.assertEqual(other.follows(terms, 1)[0], house.follows(terms, 1)[0])
            fewer = [entry for entry in mixed if draw.random() < 0.6]
            less = house_of(net[0], sort, fewer)
            self.assert_wider(less, house)

    def assert_wider(self, wide, narrow):
        """Each range of the one reaches at least as far as that of the other, both ways."""
        for lot in all_lots(wide.taps):
            (low, high), (own_low, own_high) = wide.range_of(lot), narrow.range_of(lot)
            self.assertLessEqual(fraction(low), fraction(own_low))
            self.assertTrue(high is None or (own_high is not None and fraction(own_high) <= fraction(high)))

    def test_sorts(self):
        draw = generator(294)
        for at in range(30):
            net, house = drawn_house(draw, "pipes", 5, 3)
            for sort in ("hubs", "leads"):
                other = house_of(net[0], sort, house.entries())
                self.assertEqual(other.entries(), house.entries())
                self.assert_wider(other, house)

    def test_an_example_of_ranges(self):
        house = House(ABCD, "pipes")
        for lot in (("a",), ("b",), ("c",), ("d",), ("a", "b"), ("a", "c")):
            house.measure(lot, 2)
        self.assertEqual(house.settled()[("a", "d")], 4)
        self.assertEqual(house.range_of(("b", "c")), (4, 4))
        hubs = house_of(ABCD, "hubs", house.entries())
        self.assertEqual(hubs.range_of(("a", "d")), (2, 4))
        self.assertEqual(house.follows(((("a", "d"), -1),), -4)[0], "follows")
        self.assertEqual(hubs.follows(((("a", "d"), 1),), 4)[0], "breaks")
        self.assertEqual(House(AB, "leads").ranges(), {A: (0, None), B: (0, None)})


def walked_lots(many, has):
    """The least lots of so many numbers with a property, walked over all lots."""
    lots = [lot for size in range(many + 1) for lot in itertools.combinations(range(many), size) if has(lot)]
    return sorted(lot for lot in lots if not any(set(less) < set(lot) for less in lots))


class LeastLotsTest(unittest.TestCase):
    def assert_lots(self, house, terms, bound):
        entries, taps, sort = house.entries(), house.taps, house.of_sort
        told = {}
        for size in range(len(entries) + 1):
            for lot in itertools.combinations(range(len(entries)), size):
                told[lot] = agree(taps, sort, facts_of([entries[at] for at in lot]) + [(terms, bound)])
        every = tuple(range(len(entries)))
        conflicts = house.conflicts(terms, bound)
        ways = house.ways_out(terms, bound)
        self.assertEqual(conflicts, walked_lots(len(entries), lambda lot: not told[lot]))
        self.assertEqual(ways, walked_lots(len(entries), lambda lot: told[tuple(at for at in every if at not in lot)]))
        # Each way out has an entry of each conflict, and the other way round.
        self.assertEqual(ways, walked_lots(len(entries), lambda lot: all(set(lot) & set(other) for other in conflicts)))
        self.assertEqual(conflicts, walked_lots(len(entries), lambda lot: all(set(lot) & set(other) for other in ways)))
        return conflicts, ways

    def test_drawn_ones(self):
        draw = generator(295)
        found = []
        for at in range(36):
            net, house = drawn_house(draw, SORTS[at % 3], 5)
            before = state(house)
            lot = draw.choice(all_lots(net[0]))
            own = counted_worth((net[0], ((lot, 1),)), net)
            terms, bound = draw.choice(((((lot, 1),), as_number(own + 1)), (((lot, -1),), as_number(Fraction(1, 2) - own)),
                                        (drawn_terms(draw, net[0]), 2)))
            found.append(self.assert_lots(house, terms, bound))
            self.assertEqual(state(house), before)
        self.assertGreater(sum(conflicts not in ([], [()]) for conflicts, _ in found), 8)

    def test_taken_and_never_kept(self):
        house = House(AB, "pipes")
        self.assertEqual((house.conflicts((), 1), house.ways_out((), 1)), ([()], []))
        self.assertEqual((house.conflicts((), 0), house.ways_out((), 0)), ([], [()]))
        house.measure(A, 2)
        house.tell(((B, 1),), 1)
        house.tell(((B, -1),), -3)
        self.assertEqual(self.assert_lots(house, ((A, 1),), 2), ([], [()]))
        self.assertEqual(self.assert_lots(house, ((A, -1),), (1, LONG)), ([()], []))
        self.assertEqual(self.assert_lots(house, ((A, 1),), (7, 2)), ([(0,), (2,)], [(0, 2)]))
        self.assertEqual(self.assert_lots(house, ((A, 1),), (5, 2)), ([(0,)], [(0,)]))
        self.assertEqual(house.conflicts(bound=3, terms=((A, 1),)), [(0,)])
        self.assertEqual(house.ways_out(bound=3, terms=((A, 1),)), [(0,)])

    def test_conflicts_of_several_entries(self):
        house = House(ABC, "pipes")
        house.tell(((A, -1),), -1)
        house.tell(((B, -1),), -1)
        house.tell(((A, -1),), -2)
        self.assertEqual(self.assert_lots(house, ((CC, 1),), 3), ([(0, 1)], [(0,), (1,)]))
        self.assertEqual(self.assert_lots(house, ((CC, 1),), 4), ([(0, 1), (1, 2)], [(0, 2), (1,)]))

    def test_six_entries_and_7(self):
        house = House(AB, "hubs")
        for number in range(6):
            house.tell(((A, -1),), -number - 1)
        self.assertEqual(house.conflicts(((A, 1),), (11, 2)), [(0,), (1,), (2,), (3,), (4,)])
        self.assertEqual(house.ways_out(((A, 1),), 4), [(0, 1, 2)])
        house.tell((), 0)
        for function in (house.conflicts, house.ways_out):
            assert_raises(self, function, (((A, 1),), 4), TooMany, most=6)
            assert_raises(self, function, (((A, 1),), None), BadNumber)
            assert_raises(self, function, (None, 4), BadTerms)
        # Beyond the reach, too, six entries come first.
        great = House(NAMES, "pipes")
        for _ in range(7):
            great.tell((), 0)
        four = tuple(((tap,), -1) for tap in "abcd")
        assert_raises(self, great.conflicts, (four, 0), TooMany, most=6)
        great.back()
        assert_raises(self, great.ways_out, (four, 0), TooMany, most=3)

    def test_slowest_answers(self):
        draw = generator(296)
        started = time.process_time()
        for sort in SORTS:
            taps = NAMES[:REACH[sort]]
            net = (taps, ())
            while len(net[1]) < 5:
                net = hidden_net(draw, sort)
                net = net if len(net[0]) == len(taps) else (taps, ())
            house = House(taps, sort)
            while len(house) < 6:
                put(house, kept_entry(draw, net, 3))
            house.conflicts(((taps[:1], 1),), 10 ** 9)
            house.ways_out(((taps[:1], 1), (taps[1:2], -1)), 10 ** 9)
            house.thinned()
            while len(house) < 15:
                put(house, kept_entry(draw, net, 3))
            house.ranges()
            house.settled()
            house.thinned()
        self.assertLess(time.process_time() - started, 120)


class ThinnedTest(unittest.TestCase):
    def walked(self, house):
        """The entries that stay, all facts of each looked at in order."""
        left = list(enumerate(house.entries()))
        for item in list(left):
            others = facts_of([entry for other, entry in left if other != item[0]])
            if all(follows(house.taps, others, house.of_sort, fact)[0] == "follows" for fact in facts_of([item[1]])):
                left.remove(item)
        return [entry for _, entry in left]

    def test_drawn_ones(self):
        draw = generator(297)
        left_out = 0
        for at in range(36):
            sort = SORTS[at % 3]
            net, house = drawn_house(draw, sort, 6)
            for entry in house.entries():
                if draw.random() < 0.3 and len(house) < 8:
                    put(house, entry)
            before = state(house)
            thin = house.thinned()
            self.assertEqual(thin.entries(), self.walked(house))
            self.assertEqual((thin.taps, thin.of_sort, thin.log()), (net[0], sort, thin.entries()))
            self.assertEqual(thin.ranges(), house.ranges())
            assert_raises(self, thin.again, (), NoEntry)
            entries = thin.entries()
            for place, entry in enumerate(entries):
                others = facts_of(entries[:place] + entries[place + 1:])
                self.assertFalse(all(follows(net[0], others, sort, fact)[0] == "follows" for fact in facts_of([entry])))
            self.assertEqual(state(house), before)
            left_out += len(house) - len(thin)
        self.assertGreater(left_out, 20)

    def test_known_ones(self):
        house = House(AB, "pipes")
        for bound in (1, 3, 2, 3):
            house.tell(((A, 1),), bound)
        house.tell((), 0)
        self.assertEqual(house.thinned().entries(), [("tell", ((A, 1),), 3)])
        self.assertEqual(house.thinned().log(), [("tell", ((A, 1),), 3)])
        house.measure(B, 3)
        self.assertEqual(house.thinned().entries(), [("measure", B, 3)])
        self.assertEqual(House(ABC, "leads").thinned(), House(ABC, "leads"))
        # Of a measured wall only one half follows: it stays as a whole.
        house = House(AB, "leads")
        house.tell(((A, 1),), 2)
        house.measure(A, 2)
        self.assertEqual(house.thinned().entries(), [("measure", A, 2)])


if __name__ == "__main__":
    unittest.main()
