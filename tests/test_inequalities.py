import random
import unittest
from fractions import Fraction

from checking import LONG, NO_NUMBERS, as_number, assert_errors, assert_raises, fraction

from behindtaps.errors import BadAim, BadPoint, BadRows
from behindtaps.inequalities import is_least, is_solved, least, solved, tight

ROWS = (((1, 0), 1), ((0, 1), 2), ((-1, -1), -5))
CLASHING = (((1, 0), 1), ((0, 1), 2), ((-1, -1), -2))
NO_ROWS = (None, True, 3, "rows", {}, [1], [None], [((1,),)], [((1,), 1, 1)], [[(1,), 1]], [([1], 1)], [((), 1)],
           [((1,), 1), ((1, 2), 1)], [((1, 2), 1), ((1,), 1)], [((True,), 1)], [((1,), False)], [((1,), (2, 4))],
           [(((2, 4),), 1)], [(((1, 1),), 1)], [((1,), None)], [((1,), "1")], [(("1",), 1)], [(1, 1)], [((0,) * 81, 1)],
           [((1,), 1)] * 201, (((1,), 1), None), [((1,), 1), ((), 1)])


def sum_at(coefficients, point):
    return sum((fraction(one) * fraction(other) for one, other in zip(coefficients, point)), Fraction(0))


def is_tuple_of_numbers(value, many):
    return type(value) is tuple and len(value) == many and all(fraction(one) is not None for one in value)


def met(rows, point):
    return all(sum_at(coefficients, point) >= fraction(bound) for coefficients, bound in rows)


def sums_of(rows, weights, many):
    sums = [sum(fraction(weight) * fraction(row[0][at]) for weight, row in zip(weights, rows)) for at in range(many)]
    return sums, sum(fraction(weight) * fraction(row[1]) for weight, row in zip(weights, rows))


def are_weights(rows, weights):
    return is_tuple_of_numbers(weights, len(rows)) and all(fraction(weight) >= 0 for weight in weights)


def show_nothing_meets(rows, weights, many):
    if not are_weights(rows, weights):
        return False
    sums, bound = sums_of(rows, weights, many)
    return sums == [0] * many and bound > 0


def fits_solved(rows, answer):
    """Whether the answer is as [12] tells, worked out here."""
    word, shown = answer
    many = len(rows[0][0]) if rows else 0
    if word == "point":
        return is_tuple_of_numbers(shown, many) and met(rows, shown)
    return word == "weights" and show_nothing_meets(rows, shown, many)


def fits_least(rows, aim, answer):
    """Whether the answer is as [13] tells, worked out here."""
    many = len(aim)
    if answer[0] == "none":
        return len(answer) == 2 and show_nothing_meets(rows, answer[1], many)
    if answer[0] == "endless":
        _, point, way = answer
        if not is_tuple_of_numbers(point, many) or not is_tuple_of_numbers(way, many) or not met(rows, point):
            return False
        return all(sum_at(row[0], way) >= 0 for row in rows) and sum_at(aim, way) < 0
    word, value, point, weights = answer
    if word != "least" or not is_tuple_of_numbers(point, many) or not are_weights(rows, weights):
        return False
    if not met(rows, point) or sum_at(aim, point) != fraction(value):
        return False
    sums, bound = sums_of(rows, weights, many)
    return sums == [fraction(one) for one in aim] and bound == fraction(value)


def drawn_entry(draw, kind):
    if kind == "signs":
        return draw.choice((0, 0, 0, 1, -1))
    if kind == "whole":
        return draw.randint(-4, 4)
    if kind == "fraction":
        return as_number(Fraction(draw.randint(-9, 9), draw.randint(1, 6)))
    return as_number(Fraction(draw.randint(-LONG, LONG), draw.choice((1, 1, 1, LONG))))


def times_row(row, factor):
    return (tuple(as_number(fraction(one) * factor) for one in row[0]), as_number(fraction(row[1]) * factor))


def drawn_rows(draw, rows, many, kind):
    """Rows of which some say the same twice, or nothing."""
    found = []
    for _ in range(rows):
        what = draw.random()
        if found and what < 0.15:
            found.append(draw.choice(found))
        elif found and what < 0.25:
            found.append(times_row(draw.choice(found), Fraction(draw.randint(1, 5), draw.randint(1, 5))))
        elif what < 0.3:
            found.append(((0,) * many, drawn_entry(draw, kind) if what < 0.26 else 0))
        else:
            found.append((tuple(drawn_entry(draw, kind) for _ in range(many)), drawn_entry(draw, kind)))
    return found


def drawn_aim(draw, rows, many, kind):
    """An aim that often has a least worth."""
    if draw.random() < 0.3:
        return tuple(drawn_entry(draw, kind) for _ in range(many))
    weights = [draw.choice((0, 0, 1, 2)) for _ in rows]
    return tuple(as_number(one) for one in sums_of(rows, weights, many)[0])


def drawn_tasks(seed, tasks, most=9):
    draw = random.Random(seed)
    for _ in range(tasks):
        kind = draw.choice(("signs", "whole", "whole", "fraction", "long"))
        many = draw.randint(1, 5)
        rows = drawn_rows(draw, draw.randint(0, most), many, kind)
        yield draw, rows, drawn_aim(draw, rows, many, kind)


def grid_points(many):
    """Some points, to be tried one by one."""
    points = [()]
    for _ in range(many):
        points = [(*point, value) for point in points for value in (-2, -1, 0, 1, 2, (1, 2))]
    return points


class ExamplesTest(unittest.TestCase):
    def test_of_the_document(self):
        self.assertEqual(least(ROWS, (1, 1)), ("least", 3, (1, 2), (1, 1, 0)))
        told = solved(CLASHING)
        self.assertEqual(told[0], "weights")
        self.assertTrue(fits_solved(CLASHING, told))
        self.assertIs(is_solved(CLASHING, ("weights", (1, 1, 1))), True)
        told = least(ROWS[:2], (0, -1))
        self.assertEqual(told[0], "endless")
        self.assertTrue(fits_least(ROWS[:2], (0, -1), told))
        self.assertIs(is_least(ROWS[:2], (0, -1), ("endless", (1, 2), (0, 1))), True)

    def test_of_the_document_is_just_one(self):
        for value in (2, 4, (5, 2)):
            self.assertIs(is_least(ROWS, (1, 1), ("least", value, (1, 2), (1, 1, 0))), False)
        self.assertIs(is_least(ROWS, (1, 1), ("least", 3, (1, 2), (1, 1, 0))), True)
        for point in ((2, 1), (1, 3), (2, 2), (0, 3), ((3, 2), (3, 2))):
            self.assertIs(is_least(ROWS, (1, 1), ("least", 3, point, (1, 1, 0))), False)
        for weights in ((2, 2, 1), (1, 1, 1), (0, 1, 0), (1, 1)):
            self.assertIs(is_least(ROWS, (1, 1), ("least", 3, (1, 2), weights)), False)

    def test_no_rows(self):
        for rows in ([], ()):
            self.assertEqual(solved(rows), ("point", ()))
            self.assertEqual(least(rows, (0, 0, 0))[:2], ("least", 0))
            self.assertEqual(least(rows, (0,))[3], ())
            self.assertTrue(fits_least([], (0, 0, 0), least(rows, (0, 0, 0))))
            for aim in ((0, 1), (-1,), ((1, 2), 0, 0), (0, 0, (-3, 2))):
                told = least(rows, aim)
                self.assertEqual(told[0], "endless")
                self.assertTrue(fits_least([], aim, told))
            self.assertIs(is_solved(rows, ("point", ())), True)
            for value in (("weights", ()), ("point", (0,)), ("point", []), ("point", ((),))):
                self.assertIs(is_solved(rows, value), False)
            self.assertIs(is_least(rows, (0, 0), ("least", 0, (5, (1, 2)), ())), True)
            for value in (("least", 0, (), ()), ("least", 0, (1,), ()), ("least", 0, (1, 2), (0,)), ("none", ()),
                          ("least", 1, (1, 2), ()), ("endless", (0, 0), (0, 0)), ("least", False, (1, 2), ())):
                self.assertIs(is_least(rows, (0, 0), value), False, value)
            self.assertIs(is_least(rows, (0, -1), ("endless", (5, 6), (-7, (1, 2)))), True)
            for value in (("endless", (5,), (0, 1)), ("endless", (5, 6), (0, -1)), ("endless", (5, 6), (1, 0)),
                          ("endless", (5, 6), (1,)), ("least", 0, (0, 0), ()), ("endless", (), ())):
                self.assertIs(is_least(rows, (0, -1), value), False, value)
            for point in ((), (1,), (1, (1, 2), -3)):
                self.assertEqual(tight(rows, point), ())

    def test_lists_and_tuples_of_rows(self):
        self.assertEqual(least(list(ROWS), (1, 1)), least(ROWS, (1, 1)))
        self.assertEqual(solved(list(ROWS)), solved(ROWS))
        self.assertEqual(tight(list(ROWS), (1, 2)), (0, 1))

    def test_parameters_by_name(self):
        self.assertEqual(solved(rows=[]), ("point", ()))
        self.assertEqual(least(aim=(1, 1), rows=ROWS)[1], 3)
        self.assertIs(is_solved(value=("point", (1, 2)), rows=ROWS), True)
        self.assertIs(is_least(value=("none", (1, 1, 1)), aim=(1, 0), rows=CLASHING), True)
        self.assertEqual(tight(point=(1, 4), rows=ROWS), (0, 2))

    def test_rows_of_zeros(self):
        self.assertEqual(solved([((0, 0), 1)])[0], "weights")
        self.assertTrue(fits_solved([((0, 0), 1)], solved([((0, 0), 1)])))
        for bound in (0, -1):
            self.assertTrue(fits_solved([((0, 0), bound)], solved([((0, 0), bound)])))
            self.assertEqual(least([((0, 0), bound)], (0, 0))[:2], ("least", 0))
            self.assertEqual(least([((0, 0), bound)], (0, 1))[0], "endless")


class DrawnTest(unittest.TestCase):
    def test_answers_are_as_told_and_judged_so(self):
        words = {}
        for _, rows, aim in drawn_tasks(1, 600):
            first = solved(rows)
            second = least(rows, aim)
            self.assertTrue(fits_solved(rows, first), (rows, first))
            self.assertTrue(fits_least(rows, aim, second), (rows, aim, second))
            self.assertIs(is_solved(rows, first), True, (rows, first))
            self.assertIs(is_least(rows, aim, second), True, (rows, aim, second))
            self.assertEqual(first[0] == "weights", second[0] == "none")
            words[second[0]] = words.get(second[0], 0) + 1
        self.assertTrue(all(words[word] > 30 for word in ("least", "endless", "none")), words)

    def test_just_one_word_fits(self):
        for _, rows, aim in drawn_tasks(2, 120):
            answers = [least(rows, aim)]
            point = solved(rows)[1] if solved(rows)[0] == "point" else None
            if answers[0][0] != "none":
                self.assertEqual(solved(rows)[0], "point")
                for weights in ((0,) * len(rows), (1,) * len(rows)):
                    self.assertIs(is_solved(rows, ("weights", weights)), False)
                    self.assertIs(is_least(rows, aim, ("none", weights)), False)
            else:
                for tried in grid_points(min(len(aim), 3)):
                    tried = tried + (0,) * (len(aim) - len(tried))
                    self.assertFalse(met(rows, tried))
                    if rows:
                        self.assertIs(is_solved(rows, ("point", tried)), False)
            if answers[0][0] == "least":
                for way in grid_points(min(len(aim), 3)):
                    way = way + (0,) * (len(aim) - len(way))
                    self.assertIs(is_least(rows, aim, ("endless", point or (0,) * len(aim), way)), False)

    def test_least_is_not_above_points_of_a_grid(self):
        for _, rows, aim in drawn_tasks(3, 150):
            told = least(rows, aim)
            if told[0] == "least" and len(aim) <= 3:
                for point in grid_points(len(aim)):
                    if met(rows, point):
                        self.assertGreaterEqual(sum_at(aim, point), fraction(told[1]))

    def test_order_multiples_and_repeats_change_nothing(self):
        for draw, rows, aim in drawn_tasks(4, 200):
            more = [times_row(row, Fraction(draw.randint(1, 9), draw.randint(1, 9))) for row in rows]
            more.extend(draw.choice(rows) for _ in range(draw.randint(0, 3)) if rows)
            draw.shuffle(more)
            self.assertEqual(solved(rows)[0], solved(more)[0])
            one, other = least(rows, aim), least(more, aim)
            self.assertEqual(one[0], other[0])
            if one[0] == "least":
                self.assertEqual(one[1], other[1])

    def test_a_row_more(self):
        for draw, rows, aim in drawn_tasks(5, 200):
            more = rows + drawn_rows(draw, 1, len(aim), "whole")
            if solved(rows)[0] == "weights":
                self.assertEqual(solved(more)[0], "weights")
            one, other = least(rows, aim), least(more, aim)
            if one[0] == other[0] == "least":
                self.assertLessEqual(fraction(one[1]), fraction(other[1]))
            if one[0] != "endless":
                self.assertNotEqual(other[0], "endless")

    def test_weights_stand_at_tight_rows_alone_and_nothing_goes_below(self):
        seen = 0
        for draw, rows, aim in drawn_tasks(6, 200):
            told = least(rows, aim)
            if told[0] != "least" or not rows:
                continue
            seen += 1
            _, value, point, weights = told
            for at in range(len(rows)):
                if at not in tight(rows, point):
                    self.assertEqual(weights[at], 0)
            less = fraction(value) - Fraction(1, draw.randint(1, 9))
            lower = (tuple(as_number(-fraction(one)) for one in aim), as_number(-less))
            self.assertEqual(solved(rows + [lower])[0], "weights")
        self.assertGreater(seen, 50)

    def test_equal_arguments_give_equal_results_and_nothing_is_changed(self):
        for _, rows, aim in drawn_tasks(7, 40):
            kept = list(rows)
            self.assertEqual(solved(rows), solved(kept))
            self.assertEqual(least(rows, aim), least(tuple(rows), aim))
            self.assertEqual(rows, kept)


class ManyRowsTest(unittest.TestCase):
    def test_many_rows_with_many_unknowns(self):
        draw = random.Random(8)
        for rows, many in ((120, 40), (60, 50), (200, 12), (30, 80)):
            start = [draw.randint(-5, 5) for _ in range(many)]
            found = []
            for _ in range(rows):
                coefficients = tuple(draw.randint(-3, 3) for _ in range(many))
                found.append((coefficients, int(sum_at(coefficients, start)) - draw.randint(0, 2)))
            aim = tuple(int(one) for one in sums_of(found, [draw.randint(0, 2) for _ in found], many)[0])
            told = least(found, aim)
            self.assertEqual(told[0], "least")
            self.assertTrue(fits_least(found, aim, told))
            self.assertIs(is_least(found, aim, told), True)
            self.assertTrue(fits_solved(found, solved(found)))

    def test_just_200_rows_and_80_unknowns(self):
        rows = [(tuple(1 if at == row % 80 else 0 for at in range(80)), row // 80) for row in range(160)]
        rows += [((-1,) * 80, -80)] * 40
        self.assertEqual(len(rows), 200)
        self.assertEqual(least(rows, (1,) * 80)[:3], ("least", 80, (1,) * 80))
        self.assertEqual(tight(rows, (1,) * 80), tuple(range(80, 200)))
        self.assertEqual(solved(rows), ("point", (1,) * 80))
        self.assertEqual(solved(rows[:199] + [((-1,) * 80, -79)])[0], "weights")

    def test_walls_of_many_rows_through_one_point(self):
        # Each row is met at 0 with nothing to spare, so that many exchanges go on at one point.
        draw = random.Random(9)
        for _ in range(4):
            rows = [(tuple(draw.choice((0, 0, 0, 1, -1)) for _ in range(20)), 0) for _ in range(70)]
            aim = tuple(int(one) for one in sums_of(rows, [draw.choice((0, 1)) for _ in rows], 20)[0])
            told = least(rows, aim)
            self.assertEqual(told[:2], ("least", 0))
            self.assertTrue(fits_least(rows, aim, told))

    def test_a_row_that_is_not_seen_at_first(self):
        # The least worth halves at each step, and only the last row stops it.
        many = 12
        rows = [((1,) + (0,) * (many - 1), 1)]
        for at in range(1, many):
            rows.append((tuple(-1 if other == at - 1 else 2 if other == at else 0 for other in range(many)), 0))
        aim = (0,) * (many - 1) + (1,)
        self.assertEqual(least(rows, aim)[1], (1, 2 ** (many - 1)))


class JudgedTest(unittest.TestCase):
    def test_other_right_answers(self):
        rows = [((1,), 0), ((-1,), -4), ((2,), 0)]
        for point in ((0,), (4,), ((1, 2),), ((7, 2),)):
            self.assertIs(is_solved(rows, ("point", point)), True)
        for point in ((-1,), (5,), ((-1, 2),), ((9, 2),)):
            self.assertIs(is_solved(rows, ("point", point)), False)
        for weights in ((1, 0, 0), (0, 0, (1, 2)), ((1, 2), 0, (1, 4)), ((1, 3), 0, (1, 3))):
            self.assertIs(is_least(rows, (1,), ("least", 0, (0,), weights)), True)
        for weights in ((1, 0, (1, 2)), (0, 0, 1), (2, 1, 0), (3, 0, -1), (3, 2, 0)):
            self.assertIs(is_least(rows, (1,), ("least", 0, (0,), weights)), False)
        clash = [((1,), 3), ((-1,), -2), ((-2,), -5)]
        for weights in ((1, 1, 0), (2, 0, 1), (4, 2, 1), ((1, 2), (1, 2), 0)):
            self.assertIs(is_solved(clash, ("weights", weights)), True)
            self.assertIs(is_least(clash, (7,), ("none", weights)), True)
        for word in ("none", "Weights", "point", "", None, 1, ("weights",)):
            self.assertIs(is_solved(clash, (word, (1, 1, 0))), False)
        for word in ("weights", "None", "endless", "least", "", None, 1, ("none",)):
            self.assertIs(is_least(clash, (7,), (word, (1, 1, 0))), False)
        for weights in ((0, 0, 0), (1, 0, 0), (2, 1, 0), (1, 1), (1, 1, 0, 0), (-1, -1, 0), (2, 4, -1), [1, 1, 0]):
            self.assertIs(is_solved(clash, ("weights", weights)), False)
            self.assertIs(is_least(clash, (7,), ("none", weights)), False)

    def test_weights_that_come_to_0_show_nothing(self):
        rows = [((1,), 2), ((-1,), -2)]
        self.assertIs(is_solved(rows, ("weights", (1, 1))), False)
        self.assertIs(is_least(rows, (0,), ("none", (1, 1))), False)
        self.assertIs(is_least(rows, (0,), ("least", 0, (2,), (1, 1))), True)
        self.assertIs(is_least(rows, (0,), ("least", 0, (2,), (0, 0))), True)

    def test_endless_needs_a_point_and_a_way_down(self):
        rows = [((1, 0), 1), ((0, 1), 2)]
        right = ("endless", (1, 2), (0, 1))
        self.assertIs(is_least(rows, (0, -1), right), True)
        self.assertIs(is_least(rows, (0, -1), ("endless", (7, (9, 2)), (3, (1, 2)))), True)
        for wrong in (("endless", (0, 2), (0, 1)), ("endless", (1, 2), (0, 0)), ("endless", (1, 2), (0, -1)),
                      ("endless", (1, 2), (-1, 1)), ("endless", (1, 2), (0, 1, 0)), ("endless", (1,), (0, 1)),
                      ("endless", [1, 2], (0, 1)), ("endless", (1, 2), [0, 1]), ("endless", (1, 2)),
                      ("endless", (1, 2), (0, 1), ()), ("endless", (1, 2), (0, True)), ("Endless", (1, 2), (0, 1))):
            self.assertIs(is_least(rows, (0, -1), wrong), False, wrong)
        self.assertIs(is_least(rows, (0, 1), right), False)

    def test_one_thing_wrong(self):
        right = ("least", 3, (1, 2), (1, 1, 0))
        self.assertIs(is_least(ROWS, (1, 1), right), True)
        for wrong in (list(right), right[:3], right + (0,), ("point",) + right[1:], (None,) + right[1:],
                      ("least", (3, 1), (1, 2), (1, 1, 0)), ("least", (6, 2), (1, 2), (1, 1, 0)),
                      ("least", 3, [1, 2], (1, 1, 0)), ("least", 3, (1, 2), [1, 1, 0]),
                      ("least", 3, (1, 2, 0), (1, 1, 0)), ("least", 3, (1, 2), (1, 1, 0, 0)),
                      ("least", 3, (True, 2), (1, 1, 0)), ("least", 3, (1, 2), (1, True, 0)),
                      ("least", 3, (1, (4, 2)), (1, 1, 0)), ("least", 3, (1, 2), (1, 1, None)),
                      ("least", "3", (1, 2), (1, 1, 0)), ("least", None, (1, 2), (1, 1, 0)),
                      ("least", 3, None, (1, 1, 0)), ("least", 3, (1, 2), None), ("least", 3, (1, 2), (1, 1, False)),
                      ("endless", (1, 2), (1, 1)), ("none", (1, 1, 0)), ("none", (0, 0, 0)), ("none",), ("least",),
                      (), None, True, "least", {}, ["least"], 3, ("endless",), ({}, 3, (1, 2), (1, 1, 0))):
            self.assertIs(is_least(ROWS, (1, 1), wrong), False, wrong)
        for wrong in (("point",), ("point", (1, 2), 0), ["point", (1, 2)], ("point", [1, 2]), ("point", (1,)),
                      ("point", (1, 2, 3)), ("point", (0, 2)), ("point", (True, 2)), ("point", (1, (4, 2))),
                      ("point", None), ("Point", (1, 2)), (None, (1, 2)), ("weights", (1, 2)), ("weights", (0, 0, 0)),
                      ("weights", (1, 1, 0)), None, (), True, 0, "point", {}, ((), ()), ("least", (1, 2))):
            self.assertIs(is_solved(ROWS, wrong), False, wrong)

    def test_equal_but_not_whole_at_all(self):
        self.assertIs(is_least([((1,), 1)], (1,), ("least", True, (1,), (1,))), False)
        self.assertIs(is_least([((1,), 1)], (1,), ("least", 1, (True,), (1,))), False)
        self.assertIs(is_least([((1,), 1)], (1,), ("least", 1, (1,), (True,))), False)
        self.assertIs(is_least([((1,), 1)], (1,), ("least", 1, (1,), (1,))), True)

    def test_drawn_answers_with_one_thing_wrong(self):
        for draw, rows, aim in drawn_tasks(10, 150):
            answer = least(rows, aim)
            kept = 2 if answer[0] == "least" else 1
            place = draw.randrange(kept, len(answer))
            if len(answer[place]) == 0:
                continue
            tuples = [list(item) for item in answer[kept:]]
            spot = draw.randrange(len(answer[place]))
            other = fraction(answer[place][spot]) + draw.choice((1, -1, Fraction(1, 3)))
            tuples[place - kept][spot] = as_number(other)
            changed = (*answer[:kept], *(tuple(item) for item in tuples))
            self.assertIs(is_least(rows, aim, changed), fits_least(rows, aim, changed), (rows, aim, changed))


class TightTest(unittest.TestCase):
    def test_tight(self):
        self.assertEqual(tight(ROWS, (1, 2)), (0, 1))
        self.assertEqual(tight(ROWS, (1, 4)), (0, 2))
        self.assertEqual(tight(ROWS, ((3, 2), (5, 2))), ())
        self.assertEqual(tight([((2, 0), 1), (((1, 2), 0), (1, 4))], ((1, 2), 9)), (0, 1))
        self.assertEqual(tight([((0,), 0), ((1,), 1), ((0,), -1)], (1,)), (0, 1))

    def test_drawn(self):
        for _, rows, _ in drawn_tasks(11, 100):
            told = solved(rows)
            if told[0] == "point" and rows:
                here = tuple(at for at, row in enumerate(rows) if sum_at(row[0], told[1]) == fraction(row[1]))
                self.assertEqual(tight(rows, told[1]), here)


class ErrorsTest(unittest.TestCase):
    def test_rows(self):
        for rows in NO_ROWS:
            for function, more in ((solved, ()), (is_solved, (None,)), (least, (None,)), (is_least, (None, None)),
                                   (tight, (None,))):
                assert_raises(self, function, (rows, *more), BadRows)

    def test_limits(self):
        row = ((1,) + (0,) * 79, 1)
        self.assertEqual(solved([row] * 200)[0], "point")
        assert_raises(self, solved, ([row] * 201,), BadRows)
        assert_raises(self, solved, ([((1,) * 81, 1)],), BadRows)
        self.assertEqual(solved([((1,) * 80, 1)])[0], "point")
        self.assertEqual(least([], (0,) * 80)[0], "least")
        assert_raises(self, least, ([], (0,) * 81), BadAim)
        assert_raises(self, least, ([], ()), BadAim)

    def test_aim(self):
        no_aims = (None, True, 1, "aim", [1, 1], (), (1,), (1, 1, 1), {}, (1, True), (1, None), (1, (2, 4)), (1, "1"),
                   (1, [1]), ((1, 1), 1))
        assert_errors(self, least, (ROWS, (1, 1)), [(0, BadRows, NO_ROWS), (1, BadAim, no_aims)])
        assert_errors(self, is_least, (ROWS, (1, 1), None), [(0, BadRows, NO_ROWS), (1, BadAim, no_aims)])
        for aim in ((), (1,), (1, 1, 1), 5, (1, True)):
            assert_raises(self, least, ([((1, 1), 0)], aim), BadAim)
            assert_raises(self, is_least, ([((1, 1), 0)], aim, None), BadAim)
        for aim in (None, [0], (True,), "aim", 0, ((2, 4),)):
            assert_raises(self, least, ([], aim), BadAim)
            assert_raises(self, is_least, ([], aim, ()), BadAim)

    def test_point(self):
        no_points = (None, True, 1, [1, 2], (), (1,), (1, 2, 3), (0, 2), (1, 1), (9, 9), (True, 2), (1, (4, 2)), {},
                     (1, "2"))
        assert_errors(self, tight, (ROWS, (1, 2)), [(0, BadRows, NO_ROWS), (1, BadPoint, no_points)])
        for point in ((), (1,), (1, 1, 1), 5, (1, True), (0, 0)):
            assert_raises(self, tight, ([((1, 1), 1)], point), BadPoint)
        for point in (None, [1], (True,), "p", {}, ((2, 4),)):
            assert_raises(self, tight, ([], point), BadPoint)

    def test_judged_values_raise_nothing(self):
        for value in [None, *NO_NUMBERS, ("point", ((1,), (2,))), (("point",), (1, 2)), ("least", (), (), ())]:
            self.assertIs(is_solved(ROWS, value), False)
            self.assertIs(is_least(ROWS, (1, 1), value), False)


if __name__ == "__main__":
    unittest.main()
