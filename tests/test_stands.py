"""Points 12 and 13 and the interface of gapstone/stands.py, beside middles, radii and the looks at each four."""

import unittest
from fractions import Fraction

from gapstone.discs import look, middle
from gapstone.dish import Dish
from gapstone.errors import TooMany
from gapstone.stands import stands, stands_so
from gapstone.words import turned
from tests.helpers import (
    MANY_SEATS, Refusing, at, calls_up_to, common_place, fractions, pair, rim_place, seats_of, swap, turned_out, words_up_to,
)

SEATS = MANY_SEATS[0]
DISH = Dish(SEATS)
CHAIN = "cd" * 110
WORDS = ("stone", "crosses", "within")


def deep_stone(many):
    """The stone whose call is so many letters of the chain."""
    return swap(SEATS, CHAIN[:many])["abcd".index(CHAIN[many - 1])]


def swaps_due(seats, disc):
    """The swaps by the words of point 12, each look taken at the disc itself."""
    discs, word = list(seats), ""
    while max([Fraction(*look(disc, one)) for one in discs]) <= -1:
        looks = [Fraction(*look(disc, one)) for one in discs]
        letter = "abcd"[looks.index(min(looks))]
        word += letter
        discs = swap(discs, letter)
    return word


def rims(one, other):
    """Whether two rims cross, and whether one of both discs lies within the other, by middles and radii alone."""
    (x, y), (far_x, far_y) = fractions(middle(one)), fractions(middle(other))
    bend, far_bend = Fraction(*one[1]), Fraction(*other[1])
    off = (x - far_x) ** 2 + (y - far_y) ** 2
    radius, far_radius = abs(1 / bend), abs(1 / far_bend)
    nearest, farthest = (radius - far_radius) ** 2, (radius + far_radius) ** 2
    within = off <= nearest if bend * far_bend > 0 else off >= farthest
    return nearest < off < farthest, within


def resized(one, times):
    """A disc about the same middle with a radius that many times as great."""
    return at(*fractions(middle(one)), Fraction(*one[1]) / times)


def moved(one, x, y):
    own_x, own_y = fractions(middle(one))
    return at(own_x + x, own_y + y, Fraction(*one[1]))


def discs_about(seats):
    """Discs of many radii all over a dish and around it, holding their insides or their outsides."""
    back, bend, x, y = min([fractions(one) for one in seats], key=lambda one: one[1])
    wide = abs(1 / bend)
    for across in range(-3, 4):
        for up in range(-3, 4):
            for times in [Fraction(1, 40), Fraction(1, 3), Fraction(5, 2)]:
                one = at(x / bend + wide * Fraction(across, 2), y / bend + wide * Fraction(up, 3), times / wide * 4)
                yield one
                yield turned_out(one)


class Stands(Refusing):
    def right(self, dish, disc, told):
        """What is told is so by middles and radii, and stands_so says so too."""
        self.assertEqual([type(told), len(told), type(told[0]), type(told[1])], [tuple, 2, str, str])
        self.assertIs(stands_so(dish, disc, told), True)
        word, call = told
        stone = dish.stone(call)
        if word == "stone":
            self.assertEqual(disc, stone)
        else:
            self.assertEqual(rims(disc, stone), (word == "crosses", word == "within"), told)
            self.assertNotEqual(disc, stone)

    def test_stones_of_the_dish(self):
        for seats in MANY_SEATS:
            dish = Dish(seats)
            for call in calls_up_to(3):
                self.assertEqual(stands(dish, dish.stone(call)), ("stone", call))
                self.assertEqual(stands(disc=dish.stone(call), dish=dish), ("stone", call))
                self.right(dish, dish.stone(call), ("stone", call))

    def test_stones_under_other_calls(self):
        for seats in MANY_SEATS[:8:3]:
            for word in words_up_to(2):
                for call in calls_up_to(2):
                    told = stands(Dish(seats).led(word), Dish(seats).stone(call))
                    self.assertEqual(told, ("stone", turned(call, word)))

    def test_plain_ones(self):
        for disc, told in [(at(Fraction(1, 2), 0, 4), ("within", "B")), (at(Fraction(1, 2), 0, -4), ("within", "A")),
                           (at(5, 0, 1), ("within", "A")), (at(0, Fraction(2, 3), 6), ("within", "d")),
                           (at(0, Fraction(-4, 15), 30), ("within", "a"))]:
            self.assertIs(stands_so(DISH, disc, told), True, told)
            self.right(DISH, disc, stands(DISH, disc))
        self.assertEqual(stands(DISH, at(Fraction(1, 2), 0, 4)), ("within", "B"))
        self.assertEqual(stands(DISH, at(5, 0, 1)), ("within", "A"))
        self.assertEqual(stands(DISH, at(0, Fraction(2, 3), 6)), ("within", "d"))

    def test_discs_all_over_a_dish(self):
        for seats in MANY_SEATS:
            dish = Dish(seats)
            stones = [dish.stone(call) for call in calls_up_to(2)]
            seen = set()
            for disc in discs_about(seats):
                told = stands(dish, disc)
                seen.add(told[0])
                self.right(dish, disc, told)
                self.assertEqual(told[0] == "stone", disc in stones)
            self.assertLessEqual({"crosses", "within"}, seen)

    def test_discs_that_cross(self):
        for seats in MANY_SEATS:
            dish = Dish(seats)
            for one, other in [("A", "B"), ("B", "C"), ("C", "a"), ("abc", "ab")]:
                x, y = fractions(common_place(dish.stone(one), dish.stone(other)))
                least = min([abs(1 / Fraction(*dish.stone(call)[1])) for call in (one, other)])
                for times in [2, 5]:
                    disc = at(x, y, times / least)
                    self.assertEqual(rims(disc, dish.stone(one)), (True, False))
                    told = stands(dish, disc)
                    self.assertEqual(told[0], "crosses")
                    self.right(dish, disc, told)
                    self.right(dish, disc, ("crosses", one))
                    self.right(dish, disc, ("crosses", other))

    def test_discs_within_one_stone_alone(self):
        for seats in MANY_SEATS:
            dish = Dish(seats)
            for call in calls_up_to(2):
                stone = dish.stone(call)
                if stone[1][0] > 0:
                    # A disc within a stone has no place in common with another one, unless it is on its rim.
                    for disc in [resized(stone, Fraction(1, 2)), resized(moved(stone, 0, 0), Fraction(99, 100))]:
                        self.assertEqual(stands(dish, disc), ("within", call))
                        self.right(dish, disc, ("within", call))

    def test_discs_within_that_reach_the_rim(self):
        for seats in MANY_SEATS[:6]:
            dish = Dish(seats)
            for call in ["B", "C", "ab", "abcd"]:
                stone = dish.stone(call)
                (x, y), (edge_x, edge_y) = fractions(middle(stone)), fractions(rim_place(stone))
                disc = at((x + edge_x) / 2, (y + edge_y) / 2, Fraction(*stone[1]) * 2)
                self.assertEqual(look(disc, stone), (1, 1))
                self.right(dish, disc, ("within", call))
                self.right(dish, disc, stands(dish, disc))
                self.assertIs(stands_so(dish, disc, ("stone", call)), False)

    def test_discs_around(self):
        for seats in MANY_SEATS[:6]:
            dish = Dish(seats)
            for disc in [resized(dish.stone("B"), 1000), resized(dish.stone("abc"), 10 ** 6)]:
                self.assertIs(stands_so(dish, disc, ("within", "D")), True)
                self.right(dish, disc, stands(dish, disc))

    def test_stones_turned_inside_out(self):
        for seats in MANY_SEATS:
            dish = Dish(seats)
            for call in calls_up_to(3):
                out = turned_out(dish.stone(call))
                told = stands(dish, out)
                self.assertEqual(told[0], "within")
                self.assertNotEqual(told[1], call)
                self.right(dish, out, told)
                for word in WORDS:
                    self.assertIs(stands_so(dish, out, (word, call)), False)

    def test_stones_moved_or_with_another_radius(self):
        for seats in MANY_SEATS[:9]:
            dish = Dish(seats)
            for call in calls_up_to(2):
                stone = dish.stone(call)
                step = 1 / Fraction(*stone[1]) / 100
                for disc in [moved(stone, step, 0), moved(stone, -step, 3 * step), resized(stone, Fraction(101, 100)),
                             resized(stone, Fraction(99, 100)), resized(stone, Fraction(10 ** 30 + 1, 10 ** 30))]:
                    told = stands(dish, disc)
                    self.assertNotEqual(told[0], "stone")
                    self.right(dish, disc, told)

    def test_just_as_many_swaps_as_there_are_and_one_fewer(self):
        discs = [DISH.stone(call) for call in ["A", "b", "abcd", "cdcdcd"]]
        discs += [resized(DISH.stone("abcdab"), Fraction(1, 7)), at(Fraction(3, 5), Fraction(7, 10), 900), at(5, 0, 1)]
        for seats in MANY_SEATS[5:8]:
            discs += [resized(one, Fraction(1, 9)) for one in swap(seats, "abc")]
        for disc in discs:
            many = len(swaps_due(SEATS, disc))
            for most in [many, many + 1, 200]:
                self.assertEqual(stands(DISH, disc, most=most), stands(DISH, disc))
            for most in range(many):
                self.refused(TooMany, {"most": most}, stands, DISH, disc, most=most)
        self.assertEqual([len(swaps_due(SEATS, disc)) for disc in discs[:5]], [0, 1, 4, 6, 6])

    def test_all_over_a_dish_no_swap_is_done_that_is_not_due(self):
        for seats in MANY_SEATS[:8]:
            dish = Dish(seats)
            for disc in list(discs_about(seats))[::5]:
                many = len(swaps_due(seats, disc))
                self.right(dish, disc, stands(dish, disc, most=many))
                if many > 0:
                    self.refused(TooMany, {"most": many - 1}, stands, dish, disc, most=many - 1)

    def test_rims_that_cross_at_right_angles(self):
        # The look of half the sum of three stones of a four less the other is 0 at these three and -2 at the other.
        for seats in MANY_SEATS:
            for place in range(4):
                other = fractions(seats[place])
                whole = [sum(column) for column in zip(*[fractions(one) for one in seats])]
                disc = tuple([pair(one / 2 - two) for one, two in zip(whole, other)])
                if disc[1] != (0, 1):
                    told = stands(Dish(seats), disc, most=0)
                    self.assertEqual(told[0], "crosses")
                    self.right(Dish(seats), disc, told)
                    self.assertIs(stands_so(Dish(seats), disc, ("crosses", "ABCD"[place])), False)

    def test_far_more_swaps_than_could_be_done(self):
        # So near to the place where A and B touch the chain has been followed for some 10 ** 18 stones.
        disc = at(1 - Fraction(3, 4 * 10 ** 36), Fraction(1, 10 ** 18), 10 ** 39)
        for most in [0, 7, 200, 400]:
            self.refused(TooMany, {"most": most}, stands, DISH, disc, most=most)

    def test_two_hundred_where_most_is_left_out(self):
        self.assertEqual(stands(DISH, deep_stone(200)), ("stone", CHAIN[:200]))
        self.assertEqual(stands(DISH, deep_stone(201), most=201), ("stone", CHAIN[:201]))
        self.refused(TooMany, {"most": 200}, stands, DISH, deep_stone(201))
        self.refused(TooMany, {"most": 199}, stands, DISH, deep_stone(200), most=199)
        inner = resized(deep_stone(205), Fraction(1, 2))
        self.assertEqual(stands(DISH, inner, most=205), ("within", CHAIN[:205]))
        self.refused(TooMany, {"most": 200}, stands, DISH, inner)

    def test_most_goes_by_its_name_alone(self):
        with self.assertRaises(TypeError):
            stands(DISH, SEATS[0], 5)
        self.assertEqual(stands(most=0, disc=SEATS[2], dish=DISH), ("stone", "C"))

    def test_asked_again(self):
        for disc in discs_about(SEATS):
            self.assertEqual(stands(DISH, disc), stands(DISH, disc))
        self.assertEqual(DISH, Dish(SEATS))

    def test_parts_of_forty_figures(self):
        seats = seats_of((-6, 11, 14, 15), move=(Fraction(1, 10 ** 19 + 9), Fraction(-10 ** 19, 7)))
        dish = Dish(seats)
        for call in calls_up_to(2):
            self.assertEqual(stands(dish, dish.stone(call)), ("stone", call))
        for disc in [at(Fraction(1, 10 ** 19), -10 ** 18, 10 ** 19), at(0, Fraction(-10 ** 19, 7), 10 ** 39)]:
            self.right(dish, disc, stands(dish, disc))


class StandsSo(unittest.TestCase):
    def test_each_word_at_each_call(self):
        for seats in MANY_SEATS[:8:2]:
            dish = Dish(seats)
            stones = {call: dish.stone(call) for call in calls_up_to(2)}
            discs = [*stones.values(), *[turned_out(one) for one in seats], *list(discs_about(seats))[::17]]
            for disc in discs:
                for call, stone in stones.items():
                    crosses, within = rims(disc, stone)
                    wanted = {"stone": disc == stone, "crosses": crosses, "within": within and disc != stone}
                    for word in WORDS:
                        self.assertIs(stands_so(dish, disc, (word, call)), wanted[word], (word, call))
                        self.assertIs(stands_so(told=(word, call), disc=disc, dish=dish), wanted[word])

    def test_a_stone_is_not_within_itself(self):
        for call in calls_up_to(2):
            self.assertIs(stands_so(DISH, DISH.stone(call), ("stone", call)), True)
            self.assertIs(stands_so(DISH, DISH.stone(call), ("within", call)), False)
            self.assertIs(stands_so(DISH, DISH.stone(call), ("crosses", call)), False)

    def test_wrong_calls(self):
        for call in calls_up_to(2):
            for other in calls_up_to(2):
                self.assertIs(stands_so(DISH, DISH.stone(call), ("stone", other)), call == other)

    def test_other_words(self):
        for disc in [SEATS[1], at(Fraction(1, 2), 0, 4), at(1, 0, 3), at(-3, 4, 7)]:
            for word in ["", "Stone", "stones", "cross", "touches", "without", "none", "None", " within", "within ", "B"]:
                for call in ["A", "B", "c", "ab"]:
                    self.assertIs(stands_so(DISH, disc, (word, call)), False)

    def test_what_is_no_call(self):
        for disc in [SEATS[1], at(Fraction(1, 2), 0, 4), at(1, 0, 3)]:
            for word in WORDS:
                for call in ["", "E", "AB", "BB", "bb", "aa", "aba ", "?", "b?", "\n"]:
                    self.assertIs(stands_so(DISH, disc, (word, call)), False)

    def test_a_call_of_more_than_forty_letters(self):
        self.assertIs(stands_so(DISH, deep_stone(40), ("stone", CHAIN[:40])), True)
        self.assertEqual(stands(DISH, deep_stone(41)), ("stone", CHAIN[:41]))
        self.assertIs(stands_so(DISH, deep_stone(41), ("stone", CHAIN[:41])), False)
        self.assertIs(stands_so(DISH, resized(deep_stone(41), Fraction(1, 2)), ("within", CHAIN[:41])), False)
        self.assertIs(stands_so(DISH, SEATS[0], ("stone", "abcd" * 2000)), False)


if __name__ == "__main__":
    unittest.main()
