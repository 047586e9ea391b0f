import itertools
import time
import unittest
from fractions import Fraction

from checking import (LONG, NAMES, NO_NUMBERS, all_lots, as_number, assert_errors, assert_new, assert_raises, drawn_number,
                      error_of, fraction)
from judging import ABCD, generator
from boxing import (SEVEN, box_worth, changed_pieces, contents_faults, drawn_contents, drawn_form, drawn_work, keeps_told,
                    slow_sums, slow_worth, sum_worth, terms_worth, use_counts, work_boxes)
from test_verdicts import NO_LOTS
from test_works import BRIDGE, EXAMPLE, LOOSE, NO_BOX, NO_WORKS, PQ

from behindtaps.errors import BadCounts, BadLot, BadTerms, BadTold, BadWork, TooMany
from behindtaps.works import boxes_of, is_work, nested, side_sums, work_form, work_worth
from behindtaps.worksums import (always, is_always_paper, least_sums, needless_boxes, needless_pipes, sum_verdict, thinned,
                                 told_apart)

BOX = (ABCD, (("box", "k", ABCD),))
ONE = (PQ, (("pipe", "p", "q", 1),))
P = ("p",)
TWO_SUMS = EXAMPLE


def many_sums(many):
    """A work of which the lot (p) has 2 ** many needed sums."""
    boxes = ("k", "l", "m")[:many]
    return (PQ, tuple(("box", name, ("p", "p", "q", f"x{name}")) for name in boxes))


def needed_slowly(work, lot, told, counts):
    """Whether contents told for counts make this sum less than each other one."""
    names = work_boxes(work)
    worths = {other: sum_worth(names, other, width, told) for other, width in slow_sums(work, lot).items()}
    return all(worths[counts] < worth for other, worth in worths.items() if other != counts)


def covers(work, lot, weights, counts):
    """Whether the mean of the least sums with these weights is nowhere above the sum with these counts."""
    needed = least_sums(work, lot)
    if type(weights) is not tuple or len(weights) != len(needed) or sum(map(fraction, weights)) != 1:
        return False
    width = slow_sums(work, lot)[counts]
    if any(fraction(weight) < 0 for weight in weights):
        return False
    flat = [[*itertools.chain(*told), fraction(own)] for told, own in needed]
    mean = [sum(fraction(weight) * row[at] for weight, row in zip(weights, flat)) for at in range(len(flat[0]))]
    return all(one <= other for one, other in zip(mean, [*itertools.chain(*counts), width]))


class LeastSumsTest(unittest.TestCase):
    def test_the_example(self):
        self.assertEqual(least_sums(EXAMPLE, P), side_sums(EXAMPLE, P))
        self.assertEqual(side_sums(EXAMPLE, P), [(((0, 1, 0, 1, 0, 1, 1),), 0), (((0, 1, 1, 1, 1, 0, 2),), 0)])

    def test_drawn_ones(self):
        draw = generator(221)
        words = []
        for at in range(60):
            work = drawn_work(draw, NAMES[:draw.randint(2, 4)], draw.randint(1, 4), 2, draw.randint(2, 8),
                              draw.choice(("whole", "fraction")))
            lot = draw.choice(all_lots(work[0]))
            needed = least_sums(work, lot)
            self.assertEqual(needed, sorted(needed, key=lambda told: told[0]))
            for counts, width in side_sums(work, lot):
                word, shown = sum_verdict(work, lot, counts)
                words.append(word)
                self.assertEqual(word == "needed", (counts, width) in needed)
                if word == "needed":
                    self.assertEqual(contents_faults(shown, work_boxes(work)), [])
                    self.assertTrue(needed_slowly(work, lot, shown, counts), (work, lot, counts))
                else:
                    self.assertTrue(covers(work, lot, shown, counts), (work, lot, counts))
            for _ in range(3):
                contents = drawn_contents(draw, ["k", "l"])
                least = min(sum_worth(work_boxes(work), counts, fraction(width), contents) for counts, width in needed)
                self.assertEqual(least, slow_worth(work, lot, contents))
        self.assertGreater(words.count("covered"), 30)
        self.assertGreater(words.count("needed"), 60)

    def test_a_sum_that_only_a_mean_covers(self):
        one, two = ((many, many, many, 0, 0, 0, many) for many in (1, 2))
        for width, word in ((0, "needed"), ((1, 4), "needed"), ((LONG, 2 * LONG + 1), "needed"), ((1, 2), "covered"),
                            ((LONG + 1, 2 * LONG + 1), "covered"), (1, "covered"), (7, "covered")):
            work = (PQ, (("box", "k", ("p", "x", "x", "x")), ("box", "k", ("p", "y", "y", "y")), ("pipe", "q", "x", 2),
                         ("pipe", "q", "y", 1), ("pipe", "x", "y", width)))
            middle = as_number(1 + fraction(width))
            self.assertEqual(side_sums(work, P), [(((0,) * 7,), 3), ((one,), middle), ((two,), 0)])
            self.assertEqual(sum_verdict(work, P, (one,))[0], word)
            self.assertEqual(len(least_sums(work, P)), 3 if word == "needed" else 2)
            if width == (1, 2):
                self.assertEqual(sum_verdict(work, P, (one,)), ("covered", ((1, 2), (1, 2))))

    def test_a_pipe_between_two_uses_of_a_box(self):
        pair = (PQ, (("box", "k", ("p", "x", "x", "x")), ("pipe", "x", "y", 3), ("box", "k", ("y", "q", "q", "q"))))
        self.assertEqual(least_sums(pair, P), [(((0,) * 7,), 3), (((1, 1, 1, 0, 0, 0, 1),), 0)])

    def test_no_boxes(self):
        self.assertEqual(least_sums(NO_BOX, P), [((), 2)])
        self.assertEqual(sum_verdict(NO_BOX, P, ()), ("needed", {}))
        self.assertEqual(least_sums(LOOSE, ("a", "b")), [((), 0)])

    def test_a_box_without_any_count(self):
        work = (PQ, (("box", "k", ("p",) * 4), ("pipe", "p", "q", 1)))
        word, contents = sum_verdict(work, P, ((0,) * 7,))
        self.assertEqual((word, contents_faults(contents, ["k"])), ("needed", []))

    def test_errors(self):
        counts = side_sums(EXAMPLE, P)[0][0]
        wrong = (None, True, 1, (), ((),), counts[0], [counts[0]], (list(counts[0]),), ((0,) * 7,), counts + counts,
                 ((False,) + counts[0][1:],), (counts[0][:-1],), (counts[0] + (0,),), ((0, True) + counts[0][2:],), {}, "a")
        assert_errors(self, sum_verdict, (EXAMPLE, P, counts), [
            (0, BadWork, NO_WORKS), (1, BadLot, NO_LOTS + (PQ,)), (2, BadCounts, wrong)])
        assert_errors(self, least_sums, (EXAMPLE, P), [(0, BadWork, NO_WORKS), (1, BadLot, NO_LOTS + (PQ,))])
        self.assertEqual(sum_verdict(counts=counts, lot=P, work=EXAMPLE)[0], "needed")
        self.assertEqual(least_sums(lot=P, work=NO_BOX), [((), 2)])
        assert_new(self, least_sums, (EXAMPLE, P))
        assert_raises(self, sum_verdict, (NO_BOX, P, ((),)), BadCounts)


def flat(told, own, boxes):
    """The counts of a sum, by number of each box, as a dict, and its width."""
    counts = {(name, key): 0 for name in boxes for key in SEVEN}
    for name, row in zip(own, told[0]):
        counts.update({(name, key): many for key, many in zip(SEVEN, row)})
    return counts, fraction(told[1])


def spoken_boxes(terms, told):
    return sorted({name for (work, _), _ in terms for name in work_boxes(work)}
                  | {name for facts, _ in told for (name, _), _ in facts})


def paper_faults(terms, told, paper):
    """What is wrong with a paper by [95], choice by choice."""
    boxes = spoken_boxes(terms, told)
    greater = [(work, lot, fraction(weight)) for (work, lot), weight in terms if fraction(weight) > 0]
    lesser = [(work, lot, -fraction(weight)) for (work, lot), weight in terms if fraction(weight) < 0]
    tables = [[flat(one, work_boxes(work), boxes) for one in least_sums(work, lot)] for work, lot, _ in greater]
    others = [[flat(one, work_boxes(work), boxes) for one in least_sums(work, lot)] for work, lot, _ in lesser]
    choices = list(itertools.product(*[range(len(table)) for table in tables]))
    if type(paper) is not tuple or len(paper) != len(choices):
        return ["form"]
    for choice, piece in zip(choices, paper):
        if type(piece) is not tuple or len(piece) != 2 or type(piece[0]) is not tuple or type(piece[1]) is not tuple:
            return ["piece"]
        means, factors = piece
        if len(means) != len(lesser) or len(factors) != len(told) or any(fraction(factor) < 0 for factor in factors):
            return ["lengths"]
        for mean, table in zip(means, others):
            if type(mean) is not tuple or len(mean) != len(table) or sum(map(fraction, mean)) != 1:
                return ["mean"]
            if any(fraction(weight) < 0 for weight in mean):
                return ["below 0"]
        left = {(name, key): Fraction(0) for name in boxes for key in SEVEN}
        width = Fraction(0)
        for (_, _, weight), table, at in zip(greater, tables, choice):
            width += weight * table[at][1]
            for key in left:
                left[key] += weight * table[at][0][key]
        for (_, _, weight), table, mean in zip(lesser, others, means):
            for share, (counts, own) in zip(mean, table):
                width -= weight * fraction(share) * own
                for key in left:
                    left[key] -= weight * fraction(share) * counts[key]
        for factor, (facts, bound) in zip(factors, told):
            width += fraction(factor) * fraction(bound)
            for (name, lot), weight in facts:
                for key, many in zip(SEVEN, use_counts(ABCD, set(lot))):
                    left[name, key] -= fraction(factor) * fraction(weight) * many
        if width < 0 or any(number < 0 for number in left.values()):
            return ["sum"]
    return []


def clash_faults(told, factors, boxes):
    if type(factors) is not tuple or len(factors) != len(told) or any(fraction(factor) < 0 for factor in factors):
        return ["form"]
    sums = {(name, key): Fraction(0) for name in boxes for key in SEVEN}
    bound = Fraction(0)
    for factor, (facts, own) in zip(factors, told):
        bound += fraction(factor) * fraction(own)
        for (name, lot), weight in facts:
            for key, many in zip(SEVEN, use_counts(ABCD, set(lot))):
                sums[name, key] += fraction(factor) * fraction(weight) * many
    return [] if bound > 0 and all(number <= 0 for number in sums.values()) else ["sum"]


def assert_always(case, terms, told, word=None):
    answer, shown = always(terms, told)
    boxes = spoken_boxes(terms, told)
    if word:
        case.assertEqual(answer, word, (terms, told))
    if answer == "holds":
        case.assertEqual(paper_faults(terms, told, shown), [], (terms, told))
        case.assertIs(is_always_paper(terms, told, shown), True)
    elif answer == "breaks":
        case.assertEqual(contents_faults(shown, boxes), [])
        case.assertTrue(keeps_told(shown, told), (terms, told))
        case.assertLess(terms_worth(terms, shown), 0)
    else:
        case.assertEqual((answer, clash_faults(told, shown, boxes)), ("clash", []), told)
    return answer, shown


def drawn_terms(draw, most=4, kind="whole"):
    terms = []
    for _ in range(draw.randint(0, most)):
        taps = NAMES[:draw.randint(2, 4)]
        work = drawn_work(draw, taps, draw.randint(0, 2), 2, draw.randint(1, 4), kind, 0.3)
        terms.append(((work, draw.choice(all_lots(taps))), draw.choice((1, 2, 3, (1, 2), -1, -1, (-1, 2)))))
    return tuple(terms)


def drawn_told(draw, most=3):
    told = []
    for _ in range(draw.randint(0, most)):
        facts = tuple(((draw.choice("kl"), draw.choice(all_lots(ABCD))), draw.choice((1, -1, 2, (-1, 3))))
                      for _ in range(draw.randint(0, 3)))
        told.append((facts, draw.choice((0, 1, -1, 3, -4, (1, 2)))))
    return told


class AlwaysTest(unittest.TestCase):
    def test_drawn_ones(self):
        draw = generator(222)
        words = []
        for at in range(400):
            terms, told = drawn_terms(draw), drawn_told(draw) if at % 2 else []
            word, shown = assert_always(self, terms, told)
            words.append(word)
            if word == "holds":
                for _ in range(5):
                    contents = drawn_contents(draw, ["k", "l"])
                    if keeps_told(contents, told):
                        self.assertGreaterEqual(terms_worth(terms, contents), 0)
            if word == "clash":
                self.assertFalse(any(keeps_told(drawn_contents(draw, ["k", "l"]), told) for _ in range(5)))
            if not told:
                self.assertEqual(always(terms)[0], word)
        for word in ("holds", "breaks", "clash"):
            self.assertGreater(words.count(word), 40)

    def test_terms_that_hold_just_so(self):
        draw = generator(223)
        words = []
        for at in range(60):
            # What is told of the box leaves its walls just one choice; so the sum is worth just one number.
            form = drawn_form(draw)
            told = []
            for lot in (("a",), ("b",), ("c",)):
                wall = box_worth(form, lot)
                told += [(((("k", lot), side),), as_number(side * wall)) for side in (1, -1)]
            work = (PQ, (("box", "k", tuple(draw.choice((("p", "q", "q", "q"), ("q", "p", "q", "q"), ("q", "q", "p", "q"))))),))
            worth = slow_worth(work, P, {"k": form})
            weight = draw.choice((1, -1, 3))
            for more, word in ((0, "holds"), (Fraction(1, LONG), "holds"), (Fraction(-1, LONG), "breaks")):
                need = as_number(more - weight * worth)
                terms = (((work, P), weight),) + (((ONE, P), need),) * (need != 0)
                words.append(assert_always(self, terms, told, word)[0])
        self.assertEqual(words.count("holds"), 2 * words.count("breaks"))

    def test_the_box_as_a_net(self):
        # What is so of all nets with four taps is so of a box.
        def claim(*weights):
            return tuple(((BOX, lot), weight) for lot, weight in weights)
        assert_always(self, claim((("a",), 1), (("b",), 1), (("a", "b"), -1)), [], "holds")
        assert_always(self, claim((("a", "b"), 1), (("a", "c"), 1), (("a",), -1), (("d",), -1)), [], "holds")
        assert_always(self, claim((("a", "b"), 1), (("a", "c"), 1), (("b",), -1), (("c",), -1)), [], "holds")
        assert_always(self, claim((("a", "b"), 1), (("a",), -1)), [], "breaks")
        assert_always(self, (), [], "holds")
        self.assertEqual(always(()), ("holds", (((), ()),)))

    def test_told_measurements(self):
        fact = ((("k", ("a",)), 1),)
        less = ((("k", ("a",)), -1),)
        term = (((BOX, ("a",)), 1), ((ONE, P), -3))
        assert_always(self, term, [], "breaks")
        assert_always(self, term, [(fact, 3)], "holds")
        assert_always(self, term, [(fact, (8999, 3000))], "breaks")
        assert_always(self, term, [(fact, 3), (less, -3)], "holds")
        assert_always(self, term, [(fact, 3), (less, -2)], "clash")
        assert_always(self, (), [(fact, 3), (less, -2)], "clash")
        assert_always(self, (), [((), 1)], "clash")
        assert_always(self, (), [((), 0)], "holds")
        # One fact with one lot twice: its weights are added.
        assert_always(self, term, [(fact + fact, 6)], "holds")
        # A box that is told of alone is in the contents, too.
        word, contents = always(term, [(((("m", ("b",)), 1),), 5)])
        self.assertEqual((word, sorted(contents)), ("breaks", ["k", "m"]))
        self.assertGreaterEqual(box_worth(contents["m"], ("b",)), 5)

    def test_what_goes_down_without_an_end(self):
        # Told: the wall of a is 1 and that of b is 2 at least; then that of c is as great as one likes.
        told = [(((("k", ("a",)), 1),), 1), (((("k", ("b",)), 1),), 2)]
        assert_always(self, (((BOX, ("c",)), -1), ((ONE, P), 10 ** 12)), told, "breaks")
        assert_always(self, (((ONE, P), 10 ** 29), ((BOX, ("c",)), (-1, LONG))), told, "breaks")
        # What is lesser grows only a little faster than what is greater, and a wide pipe is ahead of it.
        for more in ((), (((BOX, ("b",)), 1),)):
            terms = (((BOX, ("a",)), 1), ((ONE, P), 10 ** 6), ((BOX, ("a",)), (-1001, 1000))) + more
            assert_always(self, terms, [], "breaks")
            assert_always(self, terms, told, "breaks")

    def test_papers_with_one_piece_changed(self):
        draw = generator(224)
        seen = []
        while len(seen) < 400:
            terms, told = drawn_terms(draw, 3), drawn_told(draw, 2)
            word, paper = always(terms, told)
            if word != "holds":
                continue
            for value in itertools.islice(changed_pieces(paper, (0, 1, (1, 2), -1, True, None, (2, 4), [])), 150):
                right = is_always_paper(terms, told, value)
                try:
                    wanted = paper_faults(terms, told, value) == []
                except (AssertionError, TypeError):
                    wanted = False
                self.assertIs(right, wanted, (terms, told, value))
                seen.append(right)
        self.assertGreater(seen.count(False), 200)
        self.assertGreater(seen.count(True), 3)

    def test_a_paper_where_told_clash(self):
        told = [(((("k", ("a",)), 1),), 1), (((("k", ("a",)), -1),), 0)]
        term = (((BOX, ("a",)), -1),)
        self.assertEqual(always(term, told)[0], "clash")
        # From what clashes anything follows: the factors make any sum right.
        paper = (((1,),), (0, 1))
        self.assertEqual(paper_faults(term, told, (((((1,),)), (0, 1)),)), [])
        self.assertIs(is_always_paper(term, told, (paper,)), True)
        self.assertIs(is_always_paper(term, told, ((((1,),), (0, 0)),)), False)

    def test_means_are_no_numbers_below_0(self):
        # All walls of the box are told to be 0, so that any means would do.
        told = [(tuple((("k", (tap,)), -1) for tap in ABCD), 0)]
        term = (((TWO_SUMS, P), -1),)
        for mean, right in (((1, 0), True), ((0, 1), True), (((1, 2), (1, 2)), True), ((2, -1), False), ((-1, 2), False),
                            ((1, 1), False), ((0, 0), False), (((1, 2), (1, 3)), False)):
            self.assertIs(is_always_paper(term, told, (((mean,), (10,)),)), right)
        self.assertIs(is_always_paper(term, told, ((((1, 0),), (-10,)),)), False)
        assert_always(self, term, told, "holds")

    def test_works_in_other_words(self):
        draw = generator(225)
        for at in range(60):
            terms, told = drawn_terms(draw), drawn_told(draw, 2)
            other = tuple(((in_other_words(draw, work), lot), weight) for (work, lot), weight in terms)
            self.assertEqual(always(terms, told)[0], always(other, told)[0])

    def test_choices(self):
        term = ((TWO_SUMS, P), 1)
        self.assertEqual(len(least_sums(TWO_SUMS, P)), 2)
        word, paper = assert_always(self, (term,) * 5, [], "holds")
        self.assertEqual(len(paper), 32)
        # A lesser term among five greater ones: each choice speaks of its means.
        word, paper = assert_always(self, (term,) * 2 + (((TWO_SUMS, P), -5),) + (term,) * 3, [], "holds")
        self.assertEqual((len(paper), {len(means) for means, _ in paper}), (32, {1}))
        assert_raises(self, always, ((term,) * 6,), TooMany, most=32)
        assert_raises(self, is_always_paper, ((term,) * 6, (), None), TooMany, most=32)
        told = [((), 1)]
        assert_raises(self, always, ((term,) * 6, told), TooMany, most=32)
        three = many_sums(3)
        self.assertEqual(len(least_sums(three, P)), 8)
        assert_always(self, (((three, P), 1), ((many_sums(2), P), 1)), [], "holds")
        assert_raises(self, always, ((((three, P), 1), ((many_sums(2), P), 1), term),), TooMany, most=32)
        # The sums of lesser terms are no choices.
        assert_always(self, (((three, P), -1), ((three, P), -1)), [], "breaks")

    def test_three_boxes_together_and_4(self):
        def of(name):
            return ((ABCD, (("box", name, ABCD),)), ("a",)), 1
        for told in ([], [(((("n", ("a",)), 1),), 0)]):
            terms = (of("k"), of("l")) + ((of("m"),) if not told else ())
            assert_always(self, terms, told, "holds")
            assert_raises(self, always, (terms + (of("o"),), told), TooMany, most=3)
            assert_raises(self, is_always_paper, (terms + (of("o"),), told, None), TooMany, most=3)
        names = [((name, ("a",)), 1) for name in "kmno"]
        assert_raises(self, always, ((of("k"),), [(tuple(names), 0)]), TooMany, most=3)
        # Boxes come ahead of choices.
        great = (((TWO_SUMS, P), 1),) * 5
        assert_raises(self, always, (great + (((many_sums(2), P), 1),), [(tuple(names[1:]), 0)]), TooMany, most=3)

    def test_errors(self):
        term = ((BOX, ("a",)), 1)
        no_terms = (None, True, 1, [], [term], {}, "terms", (None,), ((BOX, ("a",)),), (((BOX, ("a",)), 0),), (term, None),
                    ([(BOX, ("a",)), 1],), (([BOX, ("a",)], 1),), (((BOX, ("p",)), 1),), (((BOX, ()), 1),), (((BOX, ABCD), 1),),
                    (((BOX,), 1),), ((BOX, 1),), ((((PQ, None), P), 1),), (term,) * 7, (((BOX, ("a",)), 1, 1),))
        no_terms += tuple((((BOX, ("a",)), weight),) for weight in NO_NUMBERS) + tuple((((work, P), 1),) for work in NO_WORKS)
        item = (((("k", ("a",)), 1),), 1)
        no_told = (None, True, 1, {}, "told", [None], [()], [((), None)], [((), True)], [([], 1)], [[(), 1]], [item] * 7,
                   [item, 1], [(item[0],)], [(item[0], 1, 1)], [((None,), 1)], [((("k", 1),), 1)], [(((("k",), 1),), 1)],
                   [(((["k", ("a",)], 1),), 1)], [(((("k", ("a",)), 1, 1),), 1)], [(([("k", ("a",)), 1],), 1)], [(((("k", ("a",)),),), 1)],
                   [(((("k", ("a",), 1), 1),), 1)])
        no_told += tuple([((((name, ("a",)), 1),), 1)] for name in (None, 1, "K", "", ("k",), "k k"))
        no_told += tuple([(((("k", lot), 1),), 1)] for lot in ((), ABCD, ("p",), ("b", "a"), None, "a", ["a"]))
        no_told += tuple([(((("k", ("a",)), weight),), 1)] for weight in NO_NUMBERS + (0,))
        assert_errors(self, always, ((term,), [item]), [(0, BadTerms, no_terms), (1, BadTold, no_told)])
        assert_errors(self, is_always_paper, ((term,), [item], None), [(0, BadTerms, no_terms), (1, BadTold, no_told)])
        self.assertEqual(always((term,) * 6, (item,) * 6)[0], "holds")
        self.assertEqual(always(told=[item], terms=(term,))[0], "holds")
        self.assertIs(is_always_paper(value=None, told=[], terms=(term,)), False)

    def test_slowest_answers(self):
        draw = generator(226)
        started = time.process_time()
        three = many_sums(3)
        for kind in ("whole", "long"):
            terms = [((three, P), 1), ((many_sums(2), P), drawn_number(draw, kind) or 1)]
            for _ in range(4):
                work = drawn_work(draw, NAMES, 5, 3, 12, kind, 0.3)
                terms.append(((work, draw.choice(all_lots(NAMES))), (-1, 10 ** 9)))
            told = [(tuple(((draw.choice("klm"), draw.choice(all_lots(ABCD))), draw.choice((1, 2))) for _ in range(4)),
                     draw.choice((0, 1, -1, 3, -4, (1, 2)))) for _ in range(6)]
            assert_always(self, tuple(terms), told)
        # All choices must be gone through where the terms hold: one wall is not less than five fifths of it.
        work = (PQ, ())
        while not 24 <= len(least_sums(work, P)) <= 32:
            work = drawn_work(draw, ("p", "q", "r", "s"), 5, 3, 12, "whole", 0.2)
        terms = (((work, P), 1),) + (((work, P), (-1, 5)),) * 5
        told = [((((name, lot), 1),), 1) for name in "klm" for lot in (("a",), ("b",))]
        self.assertEqual(always(terms, told)[0], "holds")
        self.assertLess(time.process_time() - started, 60)


def in_other_words(draw, work):
    """A work alike: uses in another order, inner joints renamed, a pipe split, a pipe of the width 0."""
    names = {joint: joint for joint in work[0]}
    inner = sorted({joint for use in work[1] for joint in (use[2] if use[0] == "box" else use[1:3])} - set(names))
    names.update(zip(inner, draw.sample(["u", "v", "n0", "n1", "q9"], len(inner))))
    uses = []
    for use in work[1]:
        if use[0] == "box":
            uses.append(("box", use[1], tuple(names[joint] for joint in use[2])))
            continue
        ends = sorted((names[use[1]], names[use[2]]))
        if len(work[1]) < 9 and draw.random() < 0.5:
            uses += [("pipe", *ends, as_number(fraction(use[3]) * share)) for share in (Fraction(1, 3), Fraction(2, 3))]
        else:
            uses.append(("pipe", *ends, use[3]))
    if len(uses) < 12:
        uses.append(("pipe", *work[0][:2], 0))
    draw.shuffle(uses)
    return (work[0], tuple(uses))


class ApartTest(unittest.TestCase):
    def lists(self, work, lot, boxes):
        return sorted((sorted(counts.items(), key=repr), width) for counts, width in
                      [flat(told, work_boxes(work), boxes) for told in least_sums(work, lot)])

    def assert_apart(self, first, second):
        boxes = sorted({*work_boxes(first), *work_boxes(second)})
        alike = all(self.lists(first, lot, boxes) == self.lists(second, lot, boxes) for lot in all_lots(first[0]))
        told = told_apart(first, second)
        if told is None:
            self.assertTrue(alike, (first, second))
            return False
        lot, contents = told
        self.assertFalse(alike)
        self.assertIn(lot, all_lots(first[0]))
        self.assertEqual(contents_faults(contents, boxes), [])
        self.assertNotEqual(slow_worth(first, lot, contents), slow_worth(second, lot, contents))
        return True

    def test_drawn_ones(self):
        draw = generator(227)
        apart = 0
        for at in range(80):
            work = drawn_work(draw, NAMES[:draw.randint(2, 4)], draw.randint(0, 3), 2, draw.randint(1, 6))
            other = in_other_words(draw, work)
            self.assertIsNone(told_apart(work, other))
            at = draw.randrange(len(work[1]))
            use = work[1][at]
            new = ("box", use[1], use[2][::-1]) if use[0] == "box" else use[:3] + (as_number(fraction(use[3]) + Fraction(1, 9)),)
            apart += self.assert_apart(other, (work[0], work[1][:at] + (new,) + work[1][at + 1:]))
            apart += self.assert_apart((work[0], other[1][:1]), work)
        self.assertGreater(apart, 40)

    def test_boxes_of_both(self):
        first, second = ((ABCD, (("box", name, ABCD),)) for name in "kl")
        lot, contents = told_apart(first, second)
        self.assertEqual(list(contents), ["k", "l"])
        self.assertNotEqual(box_worth(contents["k"], lot), box_worth(contents["l"], lot))
        # Boxes that carry nothing do not tell works apart, but are in the count.
        loose = (PQ, (("pipe", "p", "q", 1), ("box", "m", ("p",) * 4)))
        self.assertIsNone(told_apart(loose, ONE))
        both = told_apart((PQ, (("pipe", "p", "q", 1), ("box", "m", ("p",) * 4))), (PQ, ()))
        self.assertEqual((both[0], list(both[1])), (P, ["m"]))

    def test_which_is_less(self):
        # One work is below the other for some contents and above it for others, or only above.
        less = (PQ, (("box", "k", ("p", "p", "q", "x")), ("pipe", "q", "x", 3)))
        more = (PQ, (("box", "k", ("p", "p", "q", "x")), ("pipe", "q", "x", 4)))
        for first, second in ((less, more), (more, less), (EXAMPLE, less), (EXAMPLE, EXAMPLE)):
            self.assertEqual(self.assert_apart(first, second), first != second)

    def test_errors(self):
        others = tuple((taps, ()) for taps in (ABCD, ("p", "r"), ("p", "q", "r")))
        assert_errors(self, told_apart, (EXAMPLE, NO_BOX), [(0, BadWork, NO_WORKS), (1, BadWork, NO_WORKS + others)])
        four = tuple(("box", name, ("p", "p", "q", "q")) for name in "klmn")
        self.assertIsNotNone(told_apart((PQ, four[:2]), (PQ, four[1:3])))
        assert_raises(self, told_apart, ((PQ, four[:2]), (PQ, four[2:])), TooMany, most=3)
        assert_raises(self, told_apart, ((PQ, four[:2]), (ABCD, ())), BadWork)
        self.assertIsNone(told_apart(second=NO_BOX, first=NO_BOX))

    def test_works_within_works(self):
        draw = generator(228)
        for at in range(30):
            work = drawn_work(draw, PQ, 1, 1, 3)
            inner = drawn_work(draw, ABCD, 1, 1, 2)
            if work_boxes(work) and not error_of(nested, (work, "k", inner)):
                self.assertIsNone(told_apart(nested(work, "k", inner), nested(work, "k", in_other_words(draw, inner))))


class NeedlessTest(unittest.TestCase):
    def test_known_ones(self):
        # The box m lies behind x alone; the pipes to x lead nowhere.
        work = (PQ, (("pipe", "p", "q", 2), ("box", "m", ("x", "x", "x", "y")), ("pipe", "p", "x", 3), ("pipe", "p", "q", 0),
                     ("box", "k", ("p", "p", "q", "q"))))
        self.assertEqual(needless_boxes(work), ["m"])
        self.assertEqual(needless_pipes(work), [2, 3])
        self.assertEqual(thinned(work), (PQ, (work[1][0], work[1][4])))
        self.assertEqual((needless_boxes(EXAMPLE), needless_pipes(EXAMPLE), thinned(EXAMPLE)), ([], [], EXAMPLE))
        self.assertEqual((needless_boxes(LOOSE), needless_pipes(LOOSE), thinned(LOOSE)), ([], [], LOOSE))

    def test_a_joint_that_is_called_like_a_needless_box(self):
        work = (PQ, (("pipe", "k", "p", 5), ("pipe", "k", "q", 2), ("box", "k", ("p",) * 4), ("box", "p", ("q", "q", "k", "k"))))
        self.assertEqual((needless_boxes(work), needless_pipes(work)), (["k"], []))
        self.assertEqual(thinned(work), (PQ, work[1][:2] + work[1][3:]))

    def test_each_of_two_is_needless_but_not_both(self):
        # One narrow pipe behind: of the two pipes ahead, each one alone is wide enough.
        work = (PQ, (("pipe", "p", "x", 2), ("pipe", "p", "x", 2), ("pipe", "q", "x", 2)))
        self.assertEqual(needless_pipes(work), [0, 1])
        self.assertEqual(thinned(work), (PQ, work[1][1:]))

    def test_drawn_ones(self):
        draw = generator(229)
        found = [0, 0]
        for at in range(50):
            work = drawn_work(draw, NAMES[:draw.randint(2, 3)], draw.randint(1, 3), 2, draw.randint(2, 7), "whole", 0.6)
            boxes, pipes, left = needless_boxes(work), needless_pipes(work), thinned(work)
            found[0] += len(boxes)
            found[1] += len(pipes)
            self.assertEqual(boxes, [name for name in boxes_of(work) if not self.counts(work, name)])
            for place, use in enumerate(work[1]):
                without = (work[0], work[1][:place] + work[1][place + 1:])
                self.assertEqual(place in pipes, use[0] == "pipe" and told_apart(work, without) is None)
            self.assertIs(is_work(left), True)
            self.assertIsNone(told_apart(work, left))
            self.assertEqual((needless_boxes(left), needless_pipes(left)), ([], []))
            self.assertEqual(left, self.walked(work, boxes))
            for _ in range(3):
                contents = drawn_contents(draw, ["k", "l"])
                changed = {name: drawn_form(draw) if name in boxes else form for name, form in contents.items()}
                for lot in all_lots(work[0]):
                    self.assertEqual(work_worth(left, lot, contents), as_number(slow_worth(work, lot, changed)))
        self.assertGreater(min(found), 5)

    def counts(self, work, name):
        """Whether a least sum of some lot counts the box."""
        at = boxes_of(work).index(name)
        return any(sum(counts[at]) for lot in all_lots(work[0]) for counts, _ in least_sums(work, lot))

    def walked(self, work, boxes):
        """The work without needless boxes, each pipe left out in order if it is needless in what is left."""
        left = [use for use in work[1] if use[0] == "pipe" or use[1] not in boxes]
        for use in list(left):
            at = next(place for place, other in enumerate(left) if other is use)
            if use[0] == "pipe" and at in needless_pipes((work[0], tuple(left))):
                del left[at]
        return (work[0], tuple(left))

    def test_errors_and_new_lists(self):
        for function in (needless_boxes, needless_pipes, thinned):
            assert_errors(self, function, (BRIDGE,), [(0, BadWork, NO_WORKS)])
        work = (PQ, (("pipe", "p", "x", 1), ("box", "k", ("p",) * 4)))
        assert_new(self, needless_boxes, (work,))
        assert_new(self, needless_pipes, (work,))
        self.assertEqual((needless_boxes(work=work), needless_pipes(work=work), thinned(work=work)), (["k"], [0], (PQ, ())))

    def test_slowest_answers(self):
        draw = generator(230)
        started = time.process_time()
        work = drawn_work(draw, NAMES, 5, 3, 12, "long", 0.2)
        needless_boxes(work)
        needless_pipes(work)
        thinned(work)
        self.assertIsNone(told_apart(work, in_other_words(draw, work)))
        form = work_form(drawn_work(draw, ABCD, 5, 3, 12, "whole", 0.2), {name: dict.fromkeys(SEVEN, 1) for name in "klm"})
        self.assertEqual(list(form), SEVEN)
        self.assertLess(time.process_time() - started, 60)


if __name__ == "__main__":
    unittest.main()
