import math
import unittest
from fractions import Fraction

from checking import LONG, NO_NUMBERS, as_number, assert_raises, fraction

from behindtaps.errors import BadNumber
from behindtaps.numbers import is_number, number


class NumbersTest(unittest.TestCase):
    def test_wholes_and_pairs_are_numbers(self):
        for value in (0, 1, -1, 7, LONG, -LONG, (1, 2), (-1, 2), (3, 2), (-7, 5), (LONG, LONG + 1), (1, LONG)):
            self.assertIs(is_number(value), True, value)

    def test_others_are_none(self):
        for value in NO_NUMBERS:
            self.assertIs(is_number(value), False, value)
        for value in ("", b"1", (2, 2), (6, 4), (-4, 2), (0, 3), (5, 1), (1, -1), (-3, -2), (1, (2, 3)), ([1], 2)):
            self.assertIs(is_number(value), False, value)

    def test_true_and_false_are_no_wholes(self):
        for value in (True, False, (True, 2), (3, True), (False, 2), (1, False)):
            self.assertIs(is_number(value), False, value)

    def test_number_has_lowest_terms_and_a_bottom_above_1(self):
        cases = {(6, 4): (3, 2), (6, 3): 2, (0, 5): 0, (0, -5): 0, (3, -2): (-3, 2), (-3, -2): (3, 2), (-6, 4): (-3, 2),
                 (4, -2): -2, (-4, -2): 2, (7, 1): 7, (7, -1): -7, (1, 1): 1, (LONG * 6, LONG * 4): (3, 2), (5, 5): 1}
        for (top, bottom), told in cases.items():
            self.assertEqual(repr(number(top, bottom)), repr(told), (top, bottom))

    def test_number_against_fractions(self):
        for top in range(-12, 13):
            for bottom in range(-9, 10):
                if bottom != 0:
                    told = number(top, bottom)
                    self.assertTrue(is_number(told))
                    self.assertEqual(fraction(told), Fraction(top, bottom))

    def test_is_number_against_common_divisors(self):
        for top in range(-8, 9):
            for bottom in range(-3, 9):
                self.assertIs(is_number((top, bottom)), bottom >= 2 and math.gcd(top, bottom) == 1, (top, bottom))

    def test_bad_number(self):
        for value in (True, False, None, "1", (1, 2), [1], {}, ()):
            assert_raises(self, number, (value, 2), BadNumber)
            assert_raises(self, number, (2, value), BadNumber)
        assert_raises(self, number, (1, 0), BadNumber)
        assert_raises(self, number, (0, 0), BadNumber)

    def test_parameters_by_name(self):
        self.assertEqual(number(bottom=4, top=6), (3, 2))
        self.assertIs(is_number(value=1), True)

    def test_helpers_of_these_tests(self):
        self.assertEqual([as_number(Fraction(6, 4)), as_number(Fraction(4, 2))], [(3, 2), 2])


if __name__ == "__main__":
    unittest.main()
