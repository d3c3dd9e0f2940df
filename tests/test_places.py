"""Points 11 and 13 and the interface of gapstone/places.py, beside the numbers of a place at each four."""

import copy
import unittest
from fractions import Fraction

from gapstone import places
from gapstone.discs import middle, number
from gapstone.dish import Dish
from gapstone.errors import TooMany
from gapstone.places import find, paper, paper_holds
from gapstone.words import turned
from tests.helpers import (
    MANY_SEATS, Refusing, calls_up_to, common_place, fractions, pair, rim_place, seats_of, swap, words_up_to,
)

SEATS = MANY_SEATS[0]
DISH = Dish(SEATS)
# A chain of stones, each touching the next one, the rim and the stone B.
CHAIN = "cd" * 110


def deep_place(many):
    """The middle of the stone whose call is so many letters of the chain."""
    return middle(swap(SEATS, CHAIN[:many])["abcd".index(CHAIN[many - 1])])


def grid(seats, many=7):
    """Places all over a dish and some beyond its rim."""
    back, bend, x, y = min([fractions(one) for one in seats], key=lambda one: one[1])
    wide = abs(1 / bend)
    for across in range(-many, many + 1):
        for up in range(-many, many + 1):
            yield (pair(x / bend + wide * Fraction(across, many - 1)), pair(y / bend + wide * Fraction(up, many - 2)))


def numbers(discs, place):
    return [number(one, place) for one in discs]


def plain_paper(seats, place):
    """The paper by the words of point 11: each row the numbers at the discs themselves."""
    discs, word = list(seats), ""
    rows = [numbers(discs, place)]
    while min(fractions(rows[-1])) > 0:
        seat = fractions(rows[-1]).index(max(fractions(rows[-1])))
        word += "abcd"[seat]
        discs = swap(discs, "abcd"[seat])
        rows.append(numbers(discs, place))
    return (word, rows)


class Find(Refusing):
    def test_most_swaps(self):
        self.assertEqual(places.MOST_SWAPS, 200)

    def test_plain_ones(self):
        for place, call in [(((1, 2), (0, 1)), "B"), (((-1, 2), (0, 1)), "C"), (((0, 1), (-2, 3)), "D"),
                            (((0, 1), (2, 3)), "d"), (((2, 1), (0, 1)), "A"), (((-5, 1), (7, 3)), "A"),
                            (((3, 4), (1, 10)), "B"), (((0, 1), (-3, 10)), "a")]:
            self.assertEqual(find(DISH, place), call, place)
            self.assertEqual(find(place=place, dish=DISH), call)

    def test_at_middles(self):
        for seats in MANY_SEATS:
            dish = Dish(seats)
            for call in calls_up_to(3):
                stone = dish.stone(call)
                if stone[1][0] > 0:
                    self.assertEqual(find(dish, middle(stone)), call)

    def test_on_rims(self):
        for seats in MANY_SEATS:
            dish = Dish(seats)
            for call in calls_up_to(2):
                stone = dish.stone(call)
                for c, s in [(Fraction(3, 5), Fraction(4, 5)), (Fraction(-20, 29), Fraction(21, 29))]:
                    place = rim_place(stone, c, s)
                    self.assertEqual(number(stone, place), (0, 1))
                    told = find(dish, place)
                    self.assertEqual(number(dish.stone(told), place), (0, 1))
                    touched = told != call and dish.touching(told, call)
                    self.assertTrue(told == call or touched and common_place(dish.stone(told), stone) == place)

    def test_where_two_stones_touch(self):
        for seats in MANY_SEATS:
            dish = Dish(seats)
            for word in words_up_to(2):
                calls = [turned(great, word[::-1]) for great in "ABCD"]
                for one in calls:
                    for other in calls:
                        if one != other:
                            place = common_place(dish.stone(one), dish.stone(other))
                            self.assertIn(find(dish, place), (one, other))

    def test_all_over_a_dish(self):
        for seats in MANY_SEATS[:9]:
            dish = Dish(seats)
            for place in grid(seats):
                call = find(dish, place)
                self.assertLessEqual(Fraction(*number(dish.stone(call), place)), 0)

    def test_beyond_the_rim(self):
        for seats in MANY_SEATS[:5]:
            for word in ["", "a", "abc", "bacd", "dcba"]:
                dish = Dish(swap(seats, word))
                for place in [((9, 1), (0, 1)), ((-7, 2), (-40, 3)), ((10 ** 39, 1), (1, 10 ** 39))]:
                    self.assertEqual(find(dish, place), turned("A", word))

    def test_from_whichever_four_it_is_the_same_stone(self):
        for seats in MANY_SEATS[:8:2]:
            dish = Dish(seats)
            for place in grid(seats, 4):
                back, bend, x, y = dish.stone(find(dish, place))
                if number((back, bend, x, y), place)[0] < 0:
                    for word in words_up_to(2):
                        self.assertEqual(find(dish.led(word), place), turned(find(dish, place), word))

    def test_just_as_many_swaps_as_there_are_and_one_fewer(self):
        for call in ["A", "b", "ad", "abcd", "cdcdcd"]:
            place = middle(DISH.stone(call)) if call != "A" else ((2, 1), (0, 1))
            many = 0 if call == "A" else len(call)
            for most in [many, many + 1, 200]:
                self.assertEqual(find(DISH, place, most=most), call)
                self.assertEqual(paper(DISH, place, most=most)[0], "" if call == "A" else call)
            for most in range(many):
                self.refused(TooMany, {"most": most}, find, DISH, place, most=most)
                self.refused(TooMany, {"most": most}, paper, DISH, place, most=most)

    def test_two_hundred_where_most_is_left_out(self):
        self.assertEqual(find(DISH, deep_place(200)), CHAIN[:200])
        self.assertEqual(find(DISH, deep_place(201), most=201), CHAIN[:201])
        self.refused(TooMany, {"most": 200}, find, DISH, deep_place(201))
        self.refused(TooMany, {"most": 200}, paper, DISH, deep_place(201))
        self.refused(TooMany, {"most": 0}, find, DISH, deep_place(201), most=0)

    def test_far_more_swaps_than_could_be_done(self):
        # So near to the place where A and B touch the chain has been followed for some 10 ** 18 stones.
        place = (pair(1 - Fraction(3, 4 * 10 ** 36)), (1, 10 ** 18))
        for most in [0, 7, 200, 400]:
            self.refused(TooMany, {"most": most}, find, DISH, place, most=most)
            self.refused(TooMany, {"most": most}, paper, DISH, place, most=most)
        self.refused(TooMany, {"most": 200}, find, DISH, place)

    def test_most_goes_by_its_name_alone(self):
        for function in [find, paper]:
            with self.assertRaises(TypeError):
                function(DISH, ((2, 1), (0, 1)), 5)
        self.assertEqual(find(most=1, place=((0, 1), (2, 3)), dish=DISH), "d")

    def test_asked_again(self):
        for place in grid(SEATS, 4):
            self.assertEqual(find(DISH, place), find(DISH, place))
        self.assertEqual(DISH, Dish(SEATS))


class Paper(Refusing):
    def test_plain_ones(self):
        self.assertEqual(paper(DISH, ((1, 2), (0, 1))), ("", [[(3, 4), (-1, 2), (3, 2), (7, 4)]]))
        told = ("a", [[(91, 100), (9, 50), (9, 50), (7, 100)], [(-1, 20), (9, 50), (9, 50), (7, 100)]])
        self.assertEqual(paper(DISH, ((0, 1), (-3, 10))), told)
        self.assertEqual(paper(most=1, place=((0, 1), (-3, 10)), dish=DISH), told)

    def test_by_the_words_of_the_document(self):
        for seats in MANY_SEATS:
            dish = Dish(seats)
            for place in grid(seats, 3):
                told = paper(dish, place)
                self.assertEqual(told, plain_paper(seats, place))
                self.assertEqual([type(told), type(told[0]), type(told[1])], [tuple, str, list])
                self.assertEqual([type(row) for row in told[1]], [list] * (len(told[0]) + 1))

    def test_the_rows_fall_and_the_last_alone_has_one_of_nought_or_below(self):
        for seats in MANY_SEATS[:6]:
            dish = Dish(seats)
            for place in grid(seats, 5):
                word, rows = paper(dish, place)
                for step, letter in enumerate(word):
                    seat = "abcd".index(letter)
                    self.assertGreater(min(fractions(rows[step])), 0)
                    self.assertLess(fractions(rows[step + 1])[seat], fractions(rows[step])[seat])
                self.assertLessEqual(min(fractions(rows[-1])), 0)
                self.assertIs(paper_holds(dish, place, (word, rows)), True)

    def test_the_word_is_the_way_to_what_is_found(self):
        for seats in MANY_SEATS[:6]:
            dish = Dish(seats)
            for place in grid(seats, 5):
                word, call = paper(dish, place)[0], find(dish, place)
                self.assertEqual(word or call, call)

    def test_told_lists_are_new(self):
        place = ((0, 1), (-3, 10))
        kept = copy.deepcopy(paper(DISH, place))
        word, rows = paper(DISH, place)
        rows[0][0] = None
        rows[1].clear()
        rows.pop()
        self.assertEqual(paper(DISH, place), kept)

    def test_a_long_one(self):
        word, rows = paper(DISH, deep_place(200))
        self.assertEqual((word, len(rows)), (CHAIN[:200], 201))
        self.assertEqual(rows[150], numbers(swap(SEATS, CHAIN[:150]), deep_place(200)))
        self.assertIs(paper_holds(DISH, deep_place(200), (word, rows)), True)
        longer = paper(DISH, deep_place(219), most=219)
        self.assertIs(paper_holds(DISH, deep_place(219), longer), True)


class Holds(unittest.TestCase):
    def setUp(self):
        self.dish = Dish(MANY_SEATS[3])
        self.place = middle(self.dish.stone("abcadb"))
        self.word, self.rows = paper(self.dish, self.place)

    def holds(self, wanted, word, rows):
        told = (word, rows)
        kept = copy.deepcopy(told)
        self.assertIs(paper_holds(self.dish, self.place, told), wanted, told)
        self.assertIs(paper_holds(told=told, place=self.place, dish=self.dish), wanted)
        self.assertEqual(told, kept)

    def changed(self, row, place, worth):
        rows = copy.deepcopy(self.rows)
        rows[row][place] = worth
        return rows

    def test_the_told_paper(self):
        self.assertEqual(self.word, "abcadb")
        self.holds(True, self.word, self.rows)

    def test_a_paper_without_swaps(self):
        place = middle(self.dish.stone("C"))
        word, rows = paper(self.dish, place)
        self.assertIs(paper_holds(self.dish, place, (word, rows)), True)
        self.assertIs(paper_holds(self.dish, place, ("", [])), False)
        self.assertIs(paper_holds(self.dish, place, ("", rows + rows)), False)
        self.assertIs(paper_holds(self.dish, place, ("a", rows)), False)
        self.assertIs(paper_holds(self.dish, place, ("", [[(1, 1)] * 4])), False)
        self.assertIs(paper_holds(self.dish, place, ("", [rows[0][::-1]])), False)

    def test_a_number_changed(self):
        for row in range(7):
            for place in range(4):
                top, bottom = self.rows[row][place]
                for worth in [(top + bottom, bottom), (-top, bottom), (0, 1), (7, 9)]:
                    self.holds(False, self.word, self.changed(row, place, worth))

    def test_a_row_out_or_more(self):
        for row in range(7):
            self.holds(False, self.word, self.rows[:row] + self.rows[row + 1:])
            self.holds(False, self.word, self.rows[:row] + [self.rows[row]] + self.rows[row:])
            self.holds(False, self.word, self.rows[:row] + [[]] + self.rows[row + 1:])
            self.holds(False, self.word, self.rows[:row] + [self.rows[row][:3]] + self.rows[row + 1:])
            self.holds(False, self.word, self.rows[:row] + [self.rows[row] + [(1, 1)]] + self.rows[row + 1:])
        self.holds(False, self.word, self.rows + [[(0, 1)] * 4])
        self.holds(False, self.word, [])
        self.holds(False, "", [])

    def test_another_letter(self):
        for step in range(6):
            for sign in "abcdABe? ":
                if sign != self.word[step]:
                    self.holds(False, self.word[:step] + sign + self.word[step + 1:], self.rows)

    def test_a_sign_that_is_no_letter_where_the_last_seat_is_swapped(self):
        # The seat d is the last one, to which a search that finds nothing may point.
        place = middle(DISH.stone("d"))
        word, rows = paper(DISH, place)
        self.assertIs(paper_holds(DISH, place, (word, rows)), True)
        for sign in ["D", "e", "?", " ", "\n"]:
            self.assertIs(paper_holds(DISH, place, (sign, rows)), False)

    def test_cut_short(self):
        for many in range(6):
            self.holds(False, self.word[:many], self.rows[:many + 1])
            self.holds(False, self.word[many + 1:], self.rows[many + 1:])

    def test_cut_short_all_over_a_dish(self):
        # At (-2/3, 2/3) the least number above nought is 1/9, as little as it can be there.
        for place in [((-2, 3), (2, 3)), ((2, 3), (-2, 3)), *grid(SEATS, 4)]:
            word, rows = paper(DISH, place)
            for many in range(len(word)):
                self.assertIs(paper_holds(DISH, place, (word[:many], rows[:many + 1])), False)
            self.assertIs(paper_holds(DISH, place, (word, rows)), True)

    def rows_along(self, word):
        return [numbers(self.dish.four(word[:many]), self.place) for many in range(len(word) + 1)]

    def test_one_swap_more(self):
        for letter in "acd":
            self.holds(False, self.word + letter, self.rows_along(self.word + letter))
        back = self.rows + [self.rows[-2]]
        self.holds(False, self.word + "b", back)
        self.holds(False, self.word + "bb", back + [self.rows[-1]])

    def test_a_swap_from_a_row_with_one_of_nought_or_below(self):
        place = middle(DISH.stone("B"))
        for letter in "acd":
            rows = [numbers(SEATS, place), numbers(DISH.four(letter), place)]
            self.assertIs(paper_holds(DISH, place, (letter, rows)), False)

    def test_a_swap_that_falls_from_such_a_row(self):
        # The place lies in B, or on its rim, and B is on its seat throughout; the others fall towards it all the same.
        far = DISH.led("cdcd")
        for place in [((1, 2), (0, 1)), ((1, 2), (1, 2)), ((1, 4), (1, 8))]:
            rows = [numbers(far.four("dcdc"[:many]), place) for many in range(5)]
            self.assertTrue(all([fractions(row)[1] <= 0 for row in rows]))
            self.assertTrue(all([sum(fractions(new)) < sum(fractions(old)) for old, new in zip(rows, rows[1:4])]))
            for many in range(1, 4):
                self.assertIs(paper_holds(far, place, ("dcdc"[:many], rows[:many + 1])), False)
            self.assertIs(paper_holds(far, place, ("", rows[:1])), True)
            self.assertEqual(find(far, place), "B")

    def test_there_and_back_ahead_of_it(self):
        for letter in "bcd":
            rows = [self.rows[0], numbers(self.dish.four(letter), self.place)] + self.rows
            self.holds(False, letter * 2 + self.word, rows)
        self.holds(False, "aa" + self.word, self.rows[:2] + self.rows)

    def test_rows_of_another_place_or_dish(self):
        other = middle(self.dish.stone("abcadc"))
        self.assertIs(paper_holds(self.dish, other, (self.word, self.rows)), False)
        self.assertIs(paper_holds(Dish(MANY_SEATS[2]), self.place, (self.word, self.rows)), False)
        self.holds(False, *paper(self.dish, other))
        self.holds(False, self.word, [[(top * 2, bottom) for top, bottom in row] for row in self.rows])

    def test_any_seat_may_be_swapped_whose_number_gets_less(self):
        # Where all four are above nought that is the greatest alone: it must be more than the three others make.
        for seats in MANY_SEATS[:6]:
            dish = Dish(seats)
            for place in grid(seats, 4):
                word, rows = paper(dish, place)
                for step, letter in enumerate(word):
                    row = fractions(rows[step])
                    falling = [other for other, worth in zip("abcd", row) if 2 * (sum(row) - worth) - worth < worth]
                    self.assertEqual(falling, [letter])

    def test_another_seat_swapped(self):
        for letter in "bcd":
            other = Dish(swap(self.dish.seats(), letter))
            word, rows = paper(other, self.place)
            self.assertEqual(word[0], letter)
            self.holds(False, letter + word, [self.rows[0]] + rows)

    def test_long_lists_and_words(self):
        for many in [41, 400, 8000]:
            word = ("abcd" * many)[:many]
            self.holds(False, word, self.rows)
            self.holds(False, self.word, [[(1, 1)] * 4] * many)
            self.holds(False, word, [[(1, 1)] * 4] * (many + 1))
            self.holds(False, self.word + "?" * many, self.rows + self.rows[:1] * many)
            self.holds(False, "a" * many, self.rows[:2] * many)


class Edges(unittest.TestCase):
    def test_parts_of_forty_figures(self):
        seats = seats_of((-6, 11, 14, 15), move=(Fraction(1, 10 ** 19 + 9), Fraction(-10 ** 19, 7)))
        dish = Dish(seats)
        for call in calls_up_to(2)[1:]:
            place = middle(dish.stone(call))
            self.assertEqual(find(dish, place), call)
            self.assertEqual(paper(dish, place), plain_paper(seats, place))
        place = ((10 ** 39 + 7, 10 ** 39 + 9), (-1, 10 ** 40 - 1))
        self.assertEqual(find(dish, place), "A")
        near = (pair(Fraction(1, 2) + Fraction(1, 10 ** 40 - 3)), pair(Fraction(10 ** 39, 3 * 10 ** 39 + 1)))
        told = paper(DISH, near)
        self.assertEqual(told, plain_paper(SEATS, near))
        self.assertIs(paper_holds(DISH, near, told), True)


if __name__ == "__main__":
    unittest.main()
