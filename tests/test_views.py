"""Points 4, 5, 13, 17 and 18 and the interface of gapstone/views.py, beside plain formulas over middles and bends."""

import unittest
from fractions import Fraction

from gapstone.discs import look, middle, number
from gapstone.dish import Dish
from gapstone.errors import BadTimes, BadTurn, OnRim, TooMany
from gapstone.places import find
from gapstone.stands import call_of, stands
from gapstone.views import alike, grown, mirrored, moved, same, same_stones, seen, turned_by
from gapstone.ways import far
from gapstone.words import call_at, turned
from tests.helpers import (
    CHAIN, MANY_SEATS, ROOTS, SEEN_SEATS, Refusing, at, call_in, calls_up_to, common_place, deep_stone, fractions, pair,
    rim_place, seats_of, seen_from, swap, words_up_to,
)

SEATS = seats_of(ROOTS[0])
DISH = Dish(SEATS)
DISHES = [Dish(seats) for seats in [*MANY_SEATS, *SEEN_SEATS]]
NOWHERE = ((0, 1), (0, 1))
PAIRS = [(Fraction(0), Fraction(0)), (Fraction(1), Fraction(0)), (Fraction(-7, 3), Fraction(22, 9)),
         (Fraction(10 ** 38), Fraction(-1, 10 ** 38))]
TURNS = [(Fraction(1), Fraction(0)), (Fraction(-1), Fraction(0)), (Fraction(0), Fraction(1)), (Fraction(0), Fraction(-1)),
         (Fraction(3, 5), Fraction(4, 5)), (Fraction(-20, 29), Fraction(21, 29)), (Fraction(5, 13), Fraction(-12, 13))]
TIMES = [Fraction(1), Fraction(2), Fraction(1, 2), Fraction(22, 7), Fraction(1, 10 ** 39), Fraction(10 ** 39)]


def pairs(two):
    return (pair(two[0]), pair(two[1]))


def by_middles(dish, change):
    """The seats whose middles and bends are changed so."""
    told = []
    for disc in dish.seats():
        (x, y), bend = fractions(middle(disc)), Fraction(*disc[1])
        told.append(at(*change(x, y, bend)))
    return told


def inner_place(dish, call):
    """A place within a stone, but not its middle."""
    back, bend, x, y = fractions(dish.stone(call))
    worth = Fraction(1, 3) if bend > 0 else Fraction(3)
    return (pair((x + worth * Fraction(3, 5)) / bend), pair((y + worth * Fraction(4, 5)) / bend))


class Views(Refusing):
    def test_moved(self):
        for dish in DISHES:
            for by in PAIRS:
                told = moved(dish, pairs(by))
                self.assertEqual(told.seats(), by_middles(dish, lambda x, y, bend: (x + by[0], y + by[1], bend)))
                self.assertEqual(moved(told, pairs((-by[0], -by[1]))), dish)

    def test_turned(self):
        for dish in DISHES:
            for c, s in TURNS:
                told = turned_by(dish, pairs((c, s)))
                self.assertEqual(told.seats(), by_middles(dish, lambda x, y, bend: (c * x - s * y, s * x + c * y, bend)))
                self.assertEqual(turned_by(told, pairs((c, -s))), dish)

    def test_mirrored(self):
        for dish in DISHES:
            told = mirrored(dish)
            self.assertEqual(told.seats(), by_middles(dish, lambda x, y, bend: (x, -y, bend)))
            self.assertEqual(mirrored(told), dish)

    def test_grown(self):
        for dish in DISHES:
            for times in TIMES:
                told = grown(dish, pair(times))
                self.assertEqual(told.seats(), by_middles(dish, lambda x, y, bend: (x * times, y * times, bend / times)))
                self.assertEqual(grown(told, pair(1 / times)), dish)

    def test_by_nothing(self):
        for dish in DISHES:
            self.assertEqual(moved(dish, NOWHERE), dish)
            self.assertEqual(turned_by(dish, ((1, 1), (0, 1))), dish)
            self.assertEqual(grown(dish, (1, 1)), dish)

    def test_by_names(self):
        by = ((3, 5), (-4, 5))
        self.assertEqual(moved(by=by, dish=DISH), moved(DISH, by))
        self.assertEqual(turned_by(by=by, dish=DISH), turned_by(DISH, by))
        self.assertEqual(mirrored(dish=DISH), mirrored(DISH))
        self.assertEqual(grown(times_of=(2, 3), dish=DISH), grown(DISH, (2, 3)))
        self.assertEqual(seen(place=inner_place(DISH, "ab"), most=7, dish=DISH), seen(DISH, inner_place(DISH, "ab")))
        self.assertEqual(same(other=DISH, most=3, one=DISH), ("A", "B", "C", "D"))
        self.assertIs(alike(other=DISH, one=DISH), True)

    def test_no_turns(self):
        for by in [((0, 1), (0, 1)), ((1, 1), (1, 1)), ((1, 2), (1, 2)), ((3, 5), (4, 7)), ((2, 1), (0, 1)),
                   ((0, 1), (-2, 1)), ((10 ** 39, 10 ** 39 + 1), (0, 1)), ((-3, 5), (3, 5))]:
            self.refused(BadTurn, {}, turned_by, DISH, by)

    def test_no_times(self):
        for times in [(0, 1), (-1, 1), (-1, 10 ** 39), (-22, 7), (-10 ** 39, 1)]:
            self.refused(BadTimes, {}, grown, DISH, times)

    def test_called_stones_are_viewed_too(self):
        for dish in [DISH, DISHES[7], DISHES[9], DISHES[-1]]:
            by, turn, times = (Fraction(-7, 3), Fraction(22, 9)), (Fraction(-20, 29), Fraction(21, 29)), Fraction(22, 7)
            views = [
                (moved(dish, pairs(by)), lambda x, y, bend: (x + by[0], y + by[1], bend)),
                (turned_by(dish, pairs(turn)),
                 lambda x, y, bend: (turn[0] * x - turn[1] * y, turn[1] * x + turn[0] * y, bend)),
                (mirrored(dish), lambda x, y, bend: (x, -y, bend)),
                (grown(dish, pair(times)), lambda x, y, bend: (x * times, y * times, bend / times)),
            ]
            for view, change in views:
                for word in words_up_to(3):
                    self.assertEqual(view.four(word), by_middles(dish.led(word), change))

    def test_looks_and_touchings_stay(self):
        calls = calls_up_to(2)
        for dish in [DISH, DISHES[8], DISHES[-2]]:
            views = [moved(dish, ((1, 3), (5, 1))), turned_by(dish, ((-3, 5), (4, 5))), mirrored(dish), grown(dish, (2, 9)),
                     seen(dish, inner_place(dish, "a")), seen(dish, inner_place(dish, "C"))]
            for view in views:
                for one in calls:
                    for other in calls[:10]:
                        self.assertEqual(look(view.stone(one), view.stone(other)), look(dish.stone(one), dish.stone(other)))
                        self.assertEqual(view.touching(one, other), dish.touching(one, other))
                        self.assertEqual(far(view, one, other), far(dish, one, other))

    def test_the_dish_stays(self):
        dish = Dish(SEATS)
        moved(dish, ((1, 2), (3, 1)))
        turned_by(dish, ((0, 1), (1, 1)))
        mirrored(dish)
        grown(dish, (5, 1))
        seen(dish, inner_place(dish, "B"))
        self.assertEqual(dish.seats(), SEATS)
        self.assertEqual(dish.root(), DISH.root())


class Seen(Refusing):
    def test_by_middles_and_radii(self):
        for dish in DISHES:
            for call in calls_up_to(2):
                place = inner_place(dish, call)
                told = seen(dish, place)
                self.assertEqual(told.seats(), seen_from(dish.seats(), *fractions(place)))
                self.assertLess(Fraction(*told.stone(call)[1]), 0)

    def test_bends_are_the_numbers_of_the_place(self):
        for dish in [DISH, DISHES[6], DISHES[9], DISHES[-1]]:
            for call in ("A", "D", "b", "acd"):
                place = inner_place(dish, call)
                told = seen(dish, place)
                for other in calls_up_to(3):
                    self.assertEqual(told.stone(other)[1], number(dish.stone(other), place))
                for word in words_up_to(2):
                    self.assertEqual(told.four(word), seen_from(dish.four(word), *fractions(place)))

    def test_seen_again(self):
        for dish in DISHES:
            for call in ("A", "B", "d", "ca"):
                place = inner_place(dish, call)
                back = seen(seen(dish, place), NOWHERE)
                self.assertEqual(back, moved(dish, pairs([-one for one in fractions(place)])))

    def test_places_come_where_they_are_told(self):
        for dish in [DISH, DISHES[6], DISHES[8]]:
            for call in ("A", "C", "ab"):
                place = inner_place(dish, call)
                told = seen(dish, place)
                for other in calls_up_to(2):
                    if other != call:
                        p, q = [one - own for one, own in zip(fractions(inner_place(dish, other)), fractions(place))]
                        come = (pair(p / (p * p + q * q)), pair(q / (p * p + q * q)))
                        self.assertEqual(find(told, come), other)

    def test_on_rims(self):
        for dish in DISHES:
            for call in calls_up_to(2):
                place = rim_place(dish.stone(call))
                self.refused(OnRim, {"call": find(dish, place)}, seen, dish, place)
                self.assertEqual(number(dish.stone(find(dish, place)), place), (0, 1))

    def test_where_two_stones_touch(self):
        for dish in DISHES:
            for one, other in [("A", "B"), ("C", "D"), ("a", "B"), ("abc", "ab"), ("C", "dbd")]:
                place = common_place(dish.stone(one), dish.stone(other))
                call = find(dish, place)
                self.assertIn(call, (one, other))
                self.refused(OnRim, {"call": call}, seen, dish, place)

    def test_on_the_rim_of_a_call_of_many_letters(self):
        place = rim_place(deep_stone(150))
        self.refused(OnRim, {"call": CHAIN[:150]}, seen, DISH, place)
        self.refused(OnRim, {"call": CHAIN[:150]}, seen, DISH, place, most=150)
        # Where more swaps would be due it isn't known to lie on a rim.
        self.refused(TooMany, {"most": 149}, seen, DISH, place, most=149)

    def test_most(self):
        for many in (1, 2, 7, 30, 200):
            place = middle(deep_stone(many))
            self.assertEqual(seen(DISH, place, most=many).seats(), seen_from(SEATS, *fractions(place)))
            self.refused(TooMany, {"most": many - 1}, seen, DISH, place, most=many - 1)
        self.assertEqual(seen(DISH, middle(SEATS[1]), most=0), seen(DISH, middle(SEATS[1])))

    def test_two_hundred_where_it_is_left_out(self):
        self.assertEqual(len(seen(DISH, middle(deep_stone(200))).root()[0]), 200)
        self.refused(TooMany, {"most": 200}, seen, DISH, middle(deep_stone(201)))
        self.assertEqual(len(seen(DISH, middle(deep_stone(201)), most=201).root()[0]), 201)

    def test_four_hundred_of_the_new_dish(self):
        self.assertEqual(len(seen(DISH, middle(deep_stone(400)), most=400).root()[0]), 400)
        self.refused(TooMany, {"most": 400}, seen, DISH, middle(deep_stone(401)), most=401)
        self.refused(TooMany, {"most": 400}, seen, DISH, middle(deep_stone(450)), most=10 ** 6)
        # The bound of the descent goes ahead.
        self.refused(TooMany, {"most": 399}, seen, DISH, middle(deep_stone(450)), most=399)


class Same(Refusing):
    def test_the_very_one(self):
        for dish in DISHES:
            self.assertEqual(same(dish, dish), ("A", "B", "C", "D"))
            self.assertEqual(same(dish, Dish(tuple(dish.seats())), most=0), ("A", "B", "C", "D"))

    def test_begun_by_another_four(self):
        for dish in DISHES:
            for word in words_up_to(3) + ["abcdabdc", "cdcdcdcdcdab"]:
                led = dish.led(word)
                self.assertEqual(same(dish, led), tuple([call_at(word, letter) for letter in "abcd"]))
                self.assertEqual(same(led, dish), tuple([turned(call, word) for call in "ABCD"]))
                self.assertIs(same_stones(dish, led), True)

    def test_in_any_order(self):
        led = DISH.led("acb")
        for order in [(3, 2, 1, 0), (1, 2, 3, 0), (2, 0, 3, 1)]:
            other = Dish([led.seats()[place] for place in order])
            self.assertEqual(same(DISH, other), tuple([call_at("acb", "abcd"[place]) for place in order]))
            self.assertIs(same_stones(DISH, other), True)
            self.assertIs(same_stones(other, DISH), True)

    def test_others(self):
        for dish in DISHES:
            others = [moved(dish, ((1, 7), (0, 1))), moved(dish, ((0, 1), (1, 10 ** 20))), grown(dish, (2, 1)),
                      grown(dish, (10 ** 20, 10 ** 20 + 1)), turned_by(moved(dish, ((10 ** 6, 1), (1, 9))), ((3, 5), (4, 5))),
                      mirrored(moved(dish, ((0, 1), (10 ** 6, 1)))), seen(dish, inner_place(dish, "B"))]
            for other in others:
                self.assertIsNone(same(dish, other))
                self.assertIsNone(same(other, dish))
                self.assertIs(same_stones(dish, other), False)
                self.assertIs(same_stones(other, dish), False)

    def test_views_that_keep_the_stones(self):
        # This dish looks the same from all four sides of its two axes.
        self.assertEqual(same(DISH, mirrored(DISH)), ("A", "B", "C", "d"))
        self.assertEqual(same(DISH, turned_by(DISH, ((-1, 1), (0, 1)))), ("A", "C", "B", "d"))
        self.assertIsNone(same(DISH, turned_by(DISH, ((0, 1), (1, 1)))))
        for word in words_up_to(2):
            self.assertIs(same_stones(DISH, mirrored(DISH.led(word))), True)
            self.assertIs(same_stones(DISH.led(word), turned_by(DISH, ((-1, 1), (0, 1)))), True)
            self.assertIs(same_stones(DISH.led(word), turned_by(DISH, ((0, 1), (1, 1)))), False)

    def test_one_stone_in_common(self):
        # Turned about the middle of its rim the dish keeps the rim, and no other stone.
        other = turned_by(DISH, ((3, 5), (4, 5)))
        self.assertEqual(stands(DISH, other.stone("A")), ("stone", "A"))
        for order in [(0, 1, 2, 3), (1, 0, 2, 3), (3, 2, 1, 0)]:
            self.assertIsNone(same(DISH, Dish([other.seats()[place] for place in order])))

    def test_most(self):
        for many in (1, 5, 40):
            led = DISH.led(CHAIN[:many])
            calls = tuple([call_at(CHAIN[:many], letter) for letter in "abcd"])
            self.assertEqual(same(DISH, led, most=many), calls)
            self.refused(TooMany, {"most": many - 1}, same, DISH, led, most=many - 1)

    def test_two_hundred_where_it_is_left_out(self):
        for many in (200, 201):
            led = Dish(swap(SEATS, CHAIN[:many]))
            calls = tuple([call_in(call, CHAIN[:many]) for call in "ABCD"])
            self.assertEqual(same(led, DISH, most=many), calls)
            self.assertIs(same_stones(led, DISH), True)
            if many == 200:
                self.assertEqual(same(led, DISH), calls)
            else:
                self.refused(TooMany, {"most": 200}, same, led, DISH)

    def test_seats_are_looked_at_in_order(self):
        # From far within the gap by C and D the rim is many swaps away; the turned B holds all of that gap.
        led = DISH.led("ab" * 10)
        rim, near, *others = turned_by(DISH, ((-3, 5), (-4, 5))).seats()
        self.assertEqual(stands(led, near, most=0)[0], "within")
        self.assertEqual(stands(led, rim)[0], "stone")
        self.refused(TooMany, {"most": 5}, same, led, Dish([rim, near, *others]), most=5)
        self.assertIsNone(same(led, Dish([near, rim, *others]), most=5))
        self.assertIsNone(same(led, Dish([rim, near, *others])))

    def test_the_dishes_stay(self):
        one, other = Dish(SEATS), DISH.led("ab")
        same(one, other)
        self.assertEqual((one, other), (DISH, DISH.led("ab")))

    def test_calls_of_stones_however_long(self):
        self.assertEqual(call_of(DISH, deep_stone(450)), CHAIN[:450])
        for call in calls_up_to(3):
            self.assertEqual(call_of(DISH, DISH.stone(call)), call)


class Alike(unittest.TestCase):
    def test_alike(self):
        for dish in DISHES:
            for other in [dish, dish.led("abdc"), moved(dish, ((1, 7), (-5, 3))), turned_by(dish, ((3, 5), (4, 5))),
                          mirrored(dish), mirrored(turned_by(moved(dish.led("dc"), ((9, 1), (0, 1))), ((5, 13), (12, 13)))),
                          Dish(dish.seats()[::-1])]:
                self.assertIs(alike(dish, other), True)
                self.assertIs(alike(other, dish), True)

    def test_not_alike(self):
        for dish in DISHES:
            for other in [grown(dish, (2, 1)), grown(dish, (10 ** 20, 10 ** 20 + 1)), grown(dish, (1, 2)).led("a")]:
                self.assertIs(alike(dish, other), False)
                self.assertIs(alike(other, dish), False)
        for one, bends in enumerate(ROOTS):
            for other, other_bends in enumerate(ROOTS):
                told = alike(Dish(seats_of(bends)), Dish(seats_of(other_bends, move=(1, 2))))
                self.assertIs(told, one == other)

    def test_seen_from_alike_places(self):
        # Two places that are mirrored in one another give dishes that are alike; they are not one.
        one, other = seen(DISH, ((1, 3), (1, 10))), seen(DISH, ((1, 3), (-1, 10)))
        self.assertIs(alike(one, other), True)
        self.assertIsNone(same(one, other))
        self.assertIs(alike(one, seen(DISH, ((1, 3), (1, 9)))), False)


if __name__ == "__main__":
    unittest.main()
