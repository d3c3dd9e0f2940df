"""Points 2, 3 and 24 and the interface of gapstone/parts.py, beside Python's own fractions."""

import copy
import math
import sys
import unittest
from fractions import Fraction

from gapstone.errors import BadPart, BadText
from gapstone.parts import below, less, over, part, part_text, plus, read_part, times, total
from tests.helpers import pair

LONG = 10 ** 39 + 3
LONGER = 9 * 10 ** 39 + 7
NINES = 10 ** 40 - 1

NUMBERS = [0, 1, -1, 2, -3, 4, 6, 7, -9, 10, 12, LONG, -LONG, LONGER, -LONGER, NINES, -NINES, 2 * 3 * 5 * 10 ** 38]
PARTS = [
    (0, 1), (1, 1), (-1, 1), (2, 1), (1, 2), (-1, 2), (3, 4), (-5, 6), (7, 12), (1, 3), (2, 3), (-2, 3), (12, 1),
    (LONG, 1), (-LONG, LONGER), (LONGER, LONG), (1, NINES), (-NINES, 7 * 10 ** 38), (NINES, 10 ** 39), (7, LONG),
]


class Lowest(unittest.TestCase):
    def plainly_a_part(self, one):
        self.assertIs(type(one), tuple)
        self.assertEqual([type(number) for number in one], [int, int])
        self.assertGreaterEqual(one[1], 1)
        self.assertEqual(math.gcd(*one), 1)


class Part(Lowest):
    def test_lowest_terms(self):
        self.assertEqual(part(6, 4), (3, 2))
        self.assertEqual(part(4, 6), (2, 3))
        self.assertEqual(part(3, 2), (3, 2))
        self.assertEqual(part(8, 4), (2, 1))
        self.assertEqual(part(5, 5), (1, 1))

    def test_nought(self):
        self.assertEqual(part(0), (0, 1))
        self.assertEqual(part(0, 7), (0, 1))
        self.assertEqual(part(0, -7), (0, 1))

    def test_below_nought_on_either_side(self):
        self.assertEqual(part(-6, 4), (-3, 2))
        self.assertEqual(part(6, -4), (-3, 2))
        self.assertEqual(part(-6, -4), (3, 2))
        self.assertEqual(part(1, -1), (-1, 1))
        self.assertEqual(part(-7, -1), (7, 1))

    def test_all_numbers_by_all(self):
        for top in NUMBERS:
            for bottom in NUMBERS:
                if bottom != 0:
                    self.assertEqual(part(top, bottom), pair(Fraction(top, bottom)))
                    self.plainly_a_part(part(top, bottom))

    def test_forty_figures(self):
        self.assertEqual(part(NINES, NINES), (1, 1))
        self.assertEqual(part(NINES, 3), (NINES // 3, 1))
        self.assertEqual(part(3, -NINES), (-1, NINES // 3))

    def test_under_left_out_and_by_name(self):
        self.assertEqual(part(5), (5, 1))
        self.assertEqual(part(-5), (-5, 1))
        self.assertEqual(part(over=5), (5, 1))
        self.assertEqual(part(6, under=4), (3, 2))
        self.assertEqual(part(under=4, over=6), (3, 2))

    def test_an_under_of_nought(self):
        for top in NUMBERS:
            with self.assertRaises(BadPart) as caught:
                part(top, 0)
            self.assertEqual(caught.exception.called, "BadPart")


class Reckoned(Lowest):
    def both_ways(self, function, sign):
        for one in PARTS:
            for other in PARTS:
                told = function(one, other)
                self.assertEqual(told, pair(sign(Fraction(*one), Fraction(*other))), (one, other))
                self.plainly_a_part(told)
                self.assertEqual(function(one=one, other=other), told)
                self.assertEqual(function(other=other, one=one), told)

    def test_plus(self):
        self.assertEqual(plus((1, 2), (1, 3)), (5, 6))
        self.assertEqual(plus((1, 2), (1, 2)), (1, 1))
        self.assertEqual(plus((1, 2), (-1, 2)), (0, 1))
        self.both_ways(plus, lambda one, other: one + other)

    def test_less(self):
        self.assertEqual(less((1, 2), (1, 3)), (1, 6))
        self.assertEqual(less((1, 3), (1, 2)), (-1, 6))
        self.assertEqual(less((5, 6), (5, 6)), (0, 1))
        self.both_ways(less, lambda one, other: one - other)

    def test_times(self):
        self.assertEqual(times((2, 3), (3, 4)), (1, 2))
        self.assertEqual(times((-2, 3), (0, 1)), (0, 1))
        self.assertEqual(times((-2, 3), (-3, 2)), (1, 1))
        self.both_ways(times, lambda one, other: one * other)

    def test_over(self):
        self.assertEqual(over((1, 2), (3, 4)), (2, 3))
        self.assertEqual(over((1, 2), (-3, 4)), (-2, 3))
        self.assertEqual(over((0, 1), (-3, 4)), (0, 1))
        for one in PARTS:
            for other in PARTS[1:]:
                told = over(one, other)
                self.assertEqual(told, pair(Fraction(*one) / Fraction(*other)), (one, other))
                self.plainly_a_part(told)
                self.assertEqual(over(other=other, one=one), told)

    def test_over_by_nought(self):
        for one in PARTS:
            with self.assertRaises(BadPart) as caught:
                over(one, (0, 1))
            self.assertEqual(caught.exception.called, "BadPart")
            with self.assertRaises(BadPart):
                over(other=(0, 1), one=one)

    def test_below(self):
        self.assertIs(below((1, 3), (1, 2)), True)
        self.assertIs(below((1, 2), (1, 3)), False)
        self.assertIs(below((1, 2), (1, 2)), False)
        self.assertIs(below((-1, 2), (-1, 3)), True)
        self.assertIs(below((1, LONGER), (1, LONG)), True)
        for one in PARTS:
            for other in PARTS:
                self.assertIs(below(one, other), Fraction(*one) < Fraction(*other), (one, other))
                self.assertIs(below(other=other, one=one), Fraction(*one) < Fraction(*other))


class Total(Lowest):
    def test_the_empty_list(self):
        self.assertEqual(total([]), (0, 1))
        self.assertEqual(total([], start=(-3, 7)), (-3, 7))

    def test_one_part(self):
        for one in PARTS:
            self.assertEqual(total([one]), one)
            self.assertEqual(total([one], start=one), plus(one, one))

    def test_several(self):
        self.assertEqual(total([(1, 2), (1, 3), (1, 6)]), (1, 1))
        self.assertEqual(total([(1, 2), (1, 3)], start=(1, 6)), (1, 1))
        self.assertEqual(total([(1, 2), (-1, 2)]), (0, 1))
        for many in range(len(PARTS) + 1):
            told = sum([Fraction(*one) for one in PARTS[:many]], Fraction(0))
            self.assertEqual(total(PARTS[:many]), pair(told))
            self.assertEqual(total(row=PARTS[:many], start=(-7, 30)), pair(told - Fraction(7, 30)))
            self.plainly_a_part(total(PARTS[:many]))

    def test_start_goes_by_its_name_alone(self):
        self.assertEqual(total(start=(1, 3), row=[(1, 3)]), (2, 3))
        with self.assertRaises(TypeError):
            total([(1, 3)], (1, 3))

    def test_the_list_stays_as_it_was(self):
        row = list(PARTS)
        kept = copy.deepcopy(row)
        first = total(row, start=(1, 5))
        self.assertEqual(row, kept)
        self.assertEqual(total(row, start=(1, 5)), first)
        self.assertEqual(total(row), less(first, (1, 5)))

    def test_as_many_and_as_long_as_there_may_be(self):
        row = [(number, NINES - 2 * number) for number in range(1, 401)]
        row = [pair(Fraction(*one)) for one in row]
        self.assertEqual(total(row), pair(sum([Fraction(*one) for one in row], Fraction(0))))


class Texts(unittest.TestCase):
    def test_written(self):
        for one, text in [((0, 1), "0"), ((1, 1), "1"), ((-1, 1), "-1"), ((120, 1), "120"), ((3, 4), "3/4"),
                          ((-3, 4), "-3/4"), ((-10, 1), "-10"), ((1, 10), "1/10"), ((-NINES, 1), "-" + "9" * 40),
                          ((1, NINES), "1/" + "9" * 40), ((10 ** 39, NINES), "1" + "0" * 39 + "/" + "9" * 40)]:
            self.assertEqual(part_text(one), text)
            self.assertEqual(part_text(one=one), text)
            self.assertEqual(read_part(text), one)
            self.assertEqual(read_part(text=text), one)

    def test_there_and_back(self):
        for one in PARTS:
            self.assertEqual(read_part(part_text(one)), one)
            self.assertEqual([type(number) for number in read_part(part_text(one))], [int, int])
            self.assertIs(type(read_part(part_text(one))), tuple)

    def refused(self, text):
        with self.assertRaises(BadText, msg=repr(text)) as caught:
            read_part(text)
        self.assertEqual(caught.exception.at, 0)
        self.assertEqual(caught.exception.called, "BadText")

    def test_needless_noughts(self):
        for text in ["00", "01", "-01", "007", "01/2", "1/02", "-00", "00/3", "-0", "-0/3", "0" * 40]:
            self.refused(text)

    def test_signs(self):
        for text in ["+1", "+0", "--1", "-", "+", "-+1", "1-", "1/-2", "1/+2", "-1/-2", "- 1", "1/--2", "-/2", "1/-"]:
            self.refused(text)

    def test_unders_that_are_not_written(self):
        for text in ["1/1", "0/1", "-5/1", "1/0", "0/0", "-1/0", "1/-1", "1/", "/2", "/", "0/2", "0/-2"]:
            self.refused(text)

    def test_not_in_lowest_terms(self):
        for text in ["2/4", "-2/4", "6/3", "3/3", "10/15", "-" + "9" * 40 + "/3"]:
            self.refused(text)

    def test_blanks_and_line_feeds(self):
        for text in ["", " ", " 1", "1 ", "1 /2", "1/ 2", "1/2 ", "1 2", "\n", "1\n", "\n1", "1/2\n", "1/\n2", "1\n/2"]:
            self.refused(text)

    def test_other_signs(self):
        for text in ["1/2/3", "1//2", "/1/2", "1/2/", "1,2", "a", "1a", "0x1", "1_0", "1.0", "1e3", "~", "one", "(1, 2)"]:
            self.refused(text)

    def test_figures_of_other_writings(self):
        for text in ["\u0661", "\u00b2", "1/\u0663"]:
            self.refused(text)

    def test_forty_figures_are_read_and_more_are_not(self):
        for sign in ["", "-"]:
            self.assertEqual(read_part(sign + "9" * 40), (int(sign + "9" * 40), 1))
            self.assertEqual(read_part(sign + "1" + "0" * 39 + "/" + "9" * 40), (int(sign + "1" + "0" * 39), NINES))
            self.refused(sign + "1" + "0" * 40)
            self.refused(sign + "9" * 41)
            self.refused(sign + "9" * 41 + "/2")
            self.refused(sign + "1/1" + "0" * 40)
            self.refused(sign + "9" * 8000)
            self.refused(sign + "1/" + "9" * 7000)

    def test_more_than_forty_figures_are_written(self):
        for many in [41, 59, 60, 61, 119, 120, 121, 400]:
            for number in [10 ** many - 1, 10 ** many, 10 ** many + 1, 1 - 10 ** many, 7 * 10 ** many + 10 ** (many // 2)]:
                self.assertEqual(part_text((number, 1)), str(number))
                self.assertEqual(part_text(part(number, 10 ** 50 + 1)), str(Fraction(number, 10 ** 50 + 1)))
                self.refused(part_text((number, 1)))

    def test_what_a_long_total_tells_is_written(self):
        most = sys.get_int_max_str_digits()
        row = [(1, NINES - 2 * number) for number in range(130)]
        told = total(row)
        text = part_text(told)
        sys.set_int_max_str_digits(0)
        try:
            self.assertEqual(text, f"{told[0]}/{told[1]}")
        finally:
            sys.set_int_max_str_digits(most)
        self.assertGreater(len(text), 2 * most)


if __name__ == "__main__":
    unittest.main()
