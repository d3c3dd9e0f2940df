"""Points 4, 5 and 24 and the interface of gapstone/discs.py, beside Python's own fractions."""

import unittest
from fractions import Fraction

from gapstone.discs import disc, disc_text, is_disc, look, middle, number, read_disc, touch
from gapstone.errors import BadPart, BadText
from gapstone.parts import below, part, plus
from tests.helpers import at, fractions, pair, turned_out

LONG = 10 ** 39 + 3
ORIGIN = ((0, 1), (0, 1))

PLACES = [
    ORIGIN, ((1, 1), (0, 1)), ((0, 1), (-2, 1)), ((1, 2), (1, 3)), ((-3, 5), (4, 5)), ((-7, 1), (-22, 7)),
    ((LONG, 1), (1, LONG)), ((12, 1), (LONG, 7)),
]
BENDS = [(1, 1), (-1, 1), (2, 1), (-3, 1), (1, 2), (-1, 2), (7, 5), (-22, 7), (LONG, 1), (-1, LONG)]

UNIT = at(0, 0, 1)
RIM = at(0, 0, -1)
BEYOND = at(2, 0, 1)
# The seats of the dish with the bends -1, 2, 2, 3: each two of them touch.
SEATS = [RIM, at(Fraction(1, 2), 0, 2), at(Fraction(-1, 2), 0, 2), at(0, Fraction(2, 3), 3)]


class IsDisc(unittest.TestCase):
    def test_discs(self):
        self.assertIs(is_disc(((-1, 1), (1, 1), (0, 1), (0, 1))), True)
        self.assertIs(is_disc(((1, 1), (-1, 1), (0, 1), (0, 1))), True)
        for place in PLACES:
            for bend in BENDS:
                self.assertIs(is_disc(at(*fractions(place), Fraction(*bend))), True)
                self.assertIs(is_disc(thing=turned_out(at(*fractions(place), Fraction(*bend)))), True)

    def test_a_bend_of_nought(self):
        self.assertIs(is_disc(((0, 1), (0, 1), (1, 1), (0, 1))), False)
        self.assertIs(is_disc(((5, 1), (0, 1), (3, 5), (4, 5))), False)
        self.assertIs(is_disc(((-5, 1), (0, 1), (0, 1), (-1, 1))), False)

    def test_pairs_that_are_no_parts(self):
        self.assertIs(is_disc(((-2, 2), (1, 1), (0, 1), (0, 1))), False)
        self.assertIs(is_disc(((-1, 1), (2, 2), (0, 1), (0, 1))), False)
        self.assertIs(is_disc(((-1, 1), (1, 1), (0, 2), (0, 1))), False)
        self.assertIs(is_disc(((-1, 1), (1, 1), (0, 1), (0, 5))), False)
        self.assertIs(is_disc(((1, -1), (1, 1), (0, 1), (0, 1))), False)
        self.assertIs(is_disc(((-1, 1), (-1, -1), (0, 1), (0, 1))), False)
        self.assertIs(is_disc(((-1, 1), (1, 1), (0, -1), (0, 1))), False)
        self.assertIs(is_disc(((-1, 1), (1, 1), (0, 1), (0, -3))), False)

    def test_an_under_of_nought(self):
        for place in range(4):
            for top in [0, 1, -1]:
                thing = list(UNIT)
                thing[place] = (top, 0)
                self.assertIs(is_disc(tuple(thing)), False)

    def test_another_count_of_parts(self):
        self.assertIs(is_disc(()), False)
        self.assertIs(is_disc(((1, 1),)), False)
        for one in [UNIT, RIM, SEATS[3]]:
            self.assertIs(is_disc(one[:3]), False)
            self.assertIs(is_disc(one[1:]), False)
            self.assertIs(is_disc(one + ((0, 1),)), False)
            self.assertIs(is_disc(((0, 1),) + one), False)
            self.assertIs(is_disc(one + one), False)

    def test_one_part_changed(self):
        # Each part of this one bears on the sum, by its sign too for back and bend.
        one = at(Fraction(1, 2), Fraction(-3, 5), 3)
        for place in range(4):
            for change in [(1, 1), (-1, 1), (1, 7), (-3, 5)]:
                thing = list(one)
                thing[place] = plus(thing[place], change)
                self.assertIs(is_disc(tuple(thing)), False, (place, change))

    def test_the_sum_is_just_one(self):
        self.assertIs(is_disc(((0, 1), (1, 1), (0, 1), (0, 1))), False)
        self.assertIs(is_disc(((1, 1), (1, 1), (0, 1), (0, 1))), False)
        self.assertIs(is_disc(((1, 1), (-2, 1), (0, 1), (0, 1))), False)
        self.assertIs(is_disc(((-1, 1), (1, 1), (1, 1), (0, 1))), False)


class MadeOf(unittest.TestCase):
    def test_plain_ones(self):
        self.assertEqual(disc(ORIGIN, (1, 1)), ((-1, 1), (1, 1), (0, 1), (0, 1)))
        self.assertEqual(disc(ORIGIN, (-1, 1)), ((1, 1), (-1, 1), (0, 1), (0, 1)))
        self.assertEqual(disc(((1, 2), (0, 1)), (2, 1)), ((0, 1), (2, 1), (1, 1), (0, 1)))
        self.assertEqual(disc(((0, 1), (2, 3)), (-3, 1)), ((-1, 1), (-3, 1), (0, 1), (-2, 1)))

    def test_there_and_back(self):
        for place in PLACES:
            for bend in BENDS:
                one = disc(place, bend)
                self.assertEqual(one, at(*fractions(place), Fraction(*bend)))
                self.assertIs(type(one), tuple)
                self.assertIs(is_disc(one), True)
                self.assertEqual(one[1], bend)
                self.assertEqual(middle(one), place)
                self.assertEqual(disc(middle(one), one[1]), one)

    def test_by_names(self):
        self.assertEqual(disc(bend=(2, 1), middle=((1, 2), (0, 1))), disc(((1, 2), (0, 1)), (2, 1)))
        self.assertEqual(middle(disc=BEYOND), ((2, 1), (0, 1)))

    def test_a_bend_of_nought(self):
        for place in PLACES:
            with self.assertRaises(BadPart) as caught:
                disc(place, (0, 1))
            self.assertEqual(caught.exception.called, "BadPart")

    def test_the_radius_is_one_by_the_bend(self):
        for bend in BENDS:
            one = disc(PLACES[3], bend)
            x, y = PLACES[3]
            self.assertEqual(number(one, (plus(x, part(bend[1], bend[0])), y)), (0, 1))


class Numbers(unittest.TestCase):
    def test_a_bend_above_nought(self):
        one = at(2, 0, Fraction(1, 2))
        self.assertEqual(number(one, ((2, 1), (0, 1))), (-2, 1))
        self.assertEqual(number(one, ((3, 1), (0, 1))), (-3, 2))
        self.assertEqual(number(one, ((4, 1), (0, 1))), (0, 1))
        self.assertEqual(number(one, ((16, 5), (8, 5))), (0, 1))
        self.assertEqual(number(one, ((2, 1), (-3, 1))), (5, 2))

    def test_a_bend_below_nought(self):
        one = at(2, 0, Fraction(-1, 2))
        self.assertEqual(number(one, ((2, 1), (0, 1))), (2, 1))
        self.assertEqual(number(one, ((3, 1), (0, 1))), (3, 2))
        self.assertEqual(number(one, ((4, 1), (0, 1))), (0, 1))
        self.assertEqual(number(one, ((2, 1), (-3, 1))), (-5, 2))

    def test_it_tells_within_and_without(self):
        for centre in PLACES:
            for bend in BENDS:
                one, (x, y), turn = disc(centre, bend), fractions(centre), Fraction(*bend)
                for place in PLACES:
                    p, q = fractions(place)
                    off = (p - x) ** 2 + (q - y) ** 2 - 1 / turn ** 2
                    told = Fraction(*number(one, place))
                    self.assertEqual(told, turn * off)
                    self.assertEqual(told < 0, off < 0 if turn > 0 else off > 0)

    def test_by_names_and_in_lowest_terms(self):
        told = number(place=((1, 2), (1, 3)), disc=BEYOND)
        self.assertEqual(told, pair(Fraction(9, 4) + Fraction(1, 9) - 1))
        self.assertEqual([type(thing) for thing in told], [int, int])


class Looks(unittest.TestCase):
    def test_at_itself(self):
        for place in PLACES:
            for bend in BENDS:
                one = disc(place, bend)
                self.assertEqual(look(one, one), (1, 1))
                self.assertIs(touch(one, one), False)

    def test_at_its_own_outside(self):
        for place in PLACES:
            for bend in BENDS:
                one = disc(place, bend)
                self.assertEqual(look(one, turned_out(one)), (-1, 1))
                self.assertIs(touch(one, turned_out(one)), False)
                self.assertIs(touch(turned_out(one), one), False)

    def told(self, one, other, worth, touches):
        self.assertEqual(look(one, other), worth)
        self.assertEqual(look(other, one), worth)
        self.assertEqual(look(other=other, one=one), worth)
        self.assertIs(touch(one, other), touches)
        self.assertIs(touch(other, one), touches)
        self.assertIs(touch(other=other, one=one), touches)

    def test_two_that_touch(self):
        self.told(UNIT, BEYOND, (-1, 1), True)
        self.told(at(0, 0, Fraction(-1, 2)), at(1, 0, 1), (-1, 1), True)
        self.told(at(3, 4, Fraction(1, 2)), at(0, 0, Fraction(1, 3)), (-1, 1), True)
        for one in SEATS:
            for other in SEATS:
                if one != other:
                    self.told(one, other, (-1, 1), True)

    def test_two_that_would_but_for_the_sum_of_their_bends(self):
        # The looks are as of two that touch, yet these have much more than one place in common.
        self.told(turned_out(UNIT), at(1, 0, Fraction(1, 2)), (-1, 1), False)
        self.told(turned_out(UNIT), UNIT, (-1, 1), False)
        self.told(at(0, 0, -2), at(Fraction(1, 4), 0, Fraction(4, 3)), (-1, 1), False)

    def test_two_apart(self):
        self.told(UNIT, at(3, 0, 1), (-7, 2), False)
        self.told(UNIT, at(0, 4, Fraction(1, 2)), (-11, 4), False)
        self.told(at(0, 0, Fraction(-1, 2)), at(0, Fraction(1, 2), 1), (-19, 16), False)

    def test_two_that_cross(self):
        self.told(UNIT, at(1, 0, 1), (1, 2), False)
        self.told(UNIT, at(1, 1, 1), (0, 1), False)
        self.told(UNIT, turned_out(at(1, 0, 1)), (-1, 2), False)
        self.told(turned_out(UNIT), turned_out(at(1, 0, 1)), (1, 2), False)

    def test_one_within_the_other(self):
        self.told(at(0, 0, Fraction(1, 2)), UNIT, (5, 4), False)
        self.told(at(0, 0, Fraction(1, 2)), at(1, 0, 1), (1, 1), False)
        self.told(UNIT, turned_out(at(3, 0, 1)), (7, 2), False)
        self.told(UNIT, turned_out(BEYOND), (1, 1), False)

    def test_both_are_whole_outsides(self):
        self.told(turned_out(UNIT), turned_out(BEYOND), (-1, 1), False)
        self.told(turned_out(UNIT), turned_out(at(3, 0, 1)), (-7, 2), False)

    def test_by_the_middles(self):
        discs = [disc(place, bend) for place in PLACES for bend in BENDS[:8]]
        for one in discs[::3]:
            for other in discs[::5]:
                (x, y), (far_x, far_y) = fractions(middle(one)), fractions(middle(other))
                bend, far_bend = Fraction(*one[1]), Fraction(*other[1])
                off = (x - far_x) ** 2 + (y - far_y) ** 2
                wanted = (1 / bend ** 2 + 1 / far_bend ** 2 - off) * bend * far_bend / 2
                self.assertEqual(look(one, other), pair(wanted))
                self.assertEqual(look(other, one), pair(wanted))
                self.assertIs(touch(one, other), wanted == -1 and bend + far_bend > 0)

    def test_touching_ones_have_just_one_place_in_common(self):
        for one, other, place in [(UNIT, BEYOND, ((1, 1), (0, 1))), (SEATS[0], SEATS[1], ((1, 1), (0, 1))),
                                  (SEATS[1], SEATS[2], ORIGIN)]:
            self.assertIs(touch(one, other), True)
            self.assertEqual([number(one, place), number(other, place)], [(0, 1), (0, 1)])
            for elsewhere in PLACES:
                if elsewhere != place:
                    self.assertTrue(below((0, 1), number(one, elsewhere)) or below((0, 1), number(other, elsewhere)))


class Texts(unittest.TestCase):
    def test_written(self):
        self.assertEqual(disc_text(UNIT), "-1,1,0,0")
        self.assertEqual(disc_text(disc=RIM), "1,-1,0,0")
        self.assertEqual(disc_text(at(Fraction(1, 3), Fraction(-1, 2), 1)), "-23/36,1,1/3,-1/2")
        self.assertEqual(read_disc("-23/36,1,1/3,-1/2"), at(Fraction(1, 3), Fraction(-1, 2), 1))
        self.assertEqual(read_disc(text="1,-1,0,0"), RIM)

    def test_there_and_back(self):
        for place in PLACES[:6]:
            for bend in BENDS[:8]:
                one = disc(place, bend)
                self.assertEqual(read_disc(disc_text(one)), one)
                self.assertIs(type(read_disc(disc_text(one))), tuple)
        for one in SEATS:
            self.assertEqual(read_disc(disc_text(one)), one)

    def refused(self, text):
        with self.assertRaises(BadText, msg=repr(text)) as caught:
            read_disc(text)
        self.assertEqual(caught.exception.at, 0)
        self.assertEqual(caught.exception.called, "BadText")

    def test_commas(self):
        for text in ["", ",", ",,,", "-1", "-1,1", "-1,1,0", "-1,1,0,", ",-1,1,0,0", "-1,1,0,0,", "-1,1,0,0,0",
                     "-1,,1,0,0", "-1;1;0;0", "-1,1,0,0,-1,1,0,0"]:
            self.refused(text)

    def test_blanks(self):
        for text in [" -1,1,0,0", "-1,1,0,0 ", "-1, 1,0,0", "-1,1 ,0,0", "-1,1,0,0\n", "\n-1,1,0,0", "-1,1,\n0,0",
                     "-1 1 0 0"]:
            self.refused(text)

    def test_a_part_that_is_not_so_written(self):
        for text in ["-1/1,1,0,0", "-1,1/1,0,0", "-1,1,0/1,0", "-1,1,0,0/3", "-1,+1,0,0", "-1,1,-0,0", "-1,01,0,0",
                     "-1,1,0,00", "-2/2,1,0,0", "-1,1,a,0", "-1,1,0,1/0", "1/-1,1,0,0", "(-1,1,0,0)"]:
            self.refused(text)

    def test_four_parts_that_are_no_disc(self):
        for text in ["0,0,1,0", "0,0,0,0", "1,1,0,0", "-1,1,1,0", "5,0,3/5,4/5", "-1,2,0,0", "-1,1,0,1/2"]:
            self.refused(text)

    def test_forty_figures_are_read_and_more_are_written_alone(self):
        nines, more = "9" * 40, "1" + "0" * 40
        self.assertEqual(read_disc("-1/" + nines + "," + nines + ",0,0"), at(0, 0, int(nines)))
        self.assertEqual(read_disc(nines + ",-1/" + nines + ",0,0"), at(0, 0, Fraction(-1, int(nines))))
        self.assertEqual(disc_text(at(0, 0, int(more))), "-1/" + more + "," + more + ",0,0")
        self.refused("-1/" + more + "," + more + ",0,0")
        self.refused(more + ",-1/" + more + ",0,0")


if __name__ == "__main__":
    unittest.main()
