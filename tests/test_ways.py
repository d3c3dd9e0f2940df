"""Points 8 and 16 and the interface of gapstone/ways.py, beside a search through all stones of short calls."""

import random
import unittest

from gapstone.discs import touch
from gapstone.dish import Dish
from gapstone.errors import BadCall
from gapstone.ways import far, way
from gapstone.words import turned
from tests.helpers import MANY_SEATS, ROOTS, SEEN_SEATS, Refusing, calls_up_to, seats_of, words_of, words_up_to

DISH = Dish(seats_of(ROOTS[0]))
NO_CALLS = ["", "x", "E", "AB", "aa", "abb", "aB", "Aa", "a b", " ", "-", "abc1", "ab" * 20 + "a", "abcd" * 30]


def touchings(dish, many):
    """For each stone of a short call those that touch it, by their discs alone."""
    stones = {call: dish.stone(call) for call in calls_up_to(many)}
    told = {call: [] for call in stones}
    rows = list(stones.items())
    for at, (one, disc) in enumerate(rows):
        for other, far_disc in rows[at + 1:]:
            if touch(disc, far_disc):
                told[one].append(other)
                told[other].append(one)
    return told


def searched(near, one):
    """How far all others are from one stone, ring by ring."""
    told, ring = {one: 0}, [one]
    while ring:
        found = []
        for call in ring:
            for other in near[call]:
                if other not in told:
                    told[other] = told[call] + 1
                    found.append(other)
        ring = found
    return told


def random_call(chance, longest):
    word = ""
    for step in range(chance.randint(1, longest)):
        word += chance.choice([letter for letter in "abcd" if not word.endswith(letter)])
    return word


class Way(Refusing):
    def holds(self, dish, one, other):
        """The way goes from the one to the other, each touching the next one; told is how far it is."""
        told = way(dish, one, other)
        self.assertIsInstance(told, list)
        self.assertEqual((told[0], told[-1]), (one, other))
        self.assertEqual(len(set(told)), len(told))
        for near, following in zip(told, told[1:]):
            self.assertTrue(dish.touching(near, following), told)
        self.assertEqual(far(dish, one, other), len(told) - 1)
        return len(told) - 1

    def test_of_one_to_itself(self):
        for call in [*calls_up_to(3), "ab" * 20]:
            self.assertEqual(way(DISH, call, call), [call])
            self.assertEqual(far(DISH, call, call), 0)

    def test_of_two_that_touch(self):
        for one, other in [("A", "B"), ("D", "C"), ("a", "B"), ("B", "a"), ("ab", "a"), ("a", "ab"), ("dcba", "d")]:
            self.assertEqual(way(DISH, one, other), [one, other])
            self.assertEqual(far(DISH, one, other), 1)
            self.assertEqual(way(other=other, dish=DISH, one=one), [one, other])
            self.assertEqual(far(other=other, dish=DISH, one=one), 1)

    def test_plain_ones(self):
        for one, other, many in [("A", "a", 2), ("a", "b", 2), ("b", "B", 2), ("abcd", "A", 3), ("abc", "A", 2), ("abcda", "A", 3),
                                 ("abab", "A", 2), ("abab", "cdcd", 3), ("abcd", "dcba", 4)]:
            self.assertEqual(self.holds(DISH, one, other), many, (one, other))
            self.assertEqual(self.holds(DISH, other, one), many, (one, other))

    def test_against_a_search(self):
        for dish, many in [(DISH, 4), (Dish(SEEN_SEATS[2]), 3), (Dish(MANY_SEATS[10]), 3)]:
            near = touchings(dish, many)
            for one in near:
                told = searched(near, one)
                self.assertEqual(set(told), set(near))
                for other in near:
                    self.assertEqual(far(dish, one, other), told[other], (one, other))

    def test_each_touches_the_next_one(self):
        for seats in [*MANY_SEATS, *SEEN_SEATS]:
            dish = Dish(seats)
            for one in calls_up_to(2):
                for other in [*"ABCD", "dcd", "abca"]:
                    self.assertEqual(self.holds(dish, one, other), self.holds(dish, other, one))

    def test_calls_of_up_to_twelve_letters(self):
        chance = random.Random(7)
        for turn in range(150):
            one, other = random_call(chance, 12), random_call(chance, 12)
            self.assertEqual(self.holds(DISH, one, other), self.holds(DISH, other, one))

    def test_the_longest_calls(self):
        calls = ["ab" * 20, "abcd" * 10, "dcba" * 10, "ba" * 20, "abac" * 10, "D"]
        for one in calls:
            for other in calls:
                self.holds(DISH, one, other)
        self.assertEqual(far(DISH, "ab" * 20, "A"), 2)
        self.assertEqual(far(DISH, "ab" * 20, "C"), 1)
        self.assertEqual(far(DISH, "abcd" * 10, "D"), 14)
        self.assertEqual(far(DISH, "abcd" * 10, "dcba" * 10), 28)

    def test_in_good_time(self):
        chance = random.Random(8)
        for turn in range(2000):
            one, other = random_call(chance, 40), random_call(chance, 40)
            self.assertEqual(far(DISH, one, other), far(DISH, other, one))

    def test_the_same_in_the_dish_led(self):
        chance = random.Random(9)
        for turn in range(100):
            one, other, word = [random_call(chance, 10) for each in range(3)]
            led = DISH.led(word)
            self.assertEqual(self.holds(led, turned(one, word), turned(other, word)), far(DISH, one, other))
        for word in words_up_to(2):
            for one in calls_up_to(2):
                for other in "ABCD":
                    self.assertEqual(far(DISH.led(word), turned(one, word), turned(other, word)), far(DISH, one, other))

    def test_no_farther_than_by_a_third_stone(self):
        chance = random.Random(10)
        for turn in range(500):
            one, other, third = [random_call(chance, 15) for each in range(3)]
            self.assertLessEqual(far(DISH, one, other), far(DISH, one, third) + far(DISH, third, other))

    def test_just_one_where_they_touch(self):
        for one in calls_up_to(3):
            for other in [*"ABCD", *words_of(2)]:
                self.assertEqual(far(DISH, one, other) == 1, DISH.touching(one, other))

    def test_no_calls(self):
        for call in NO_CALLS:
            for function in (way, far):
                self.refused(BadCall, {}, function, DISH, call, "A")
                self.refused(BadCall, {}, function, DISH, "abc", call)
                self.refused(BadCall, {}, function, DISH, call, call)

    def test_told_lists_are_new(self):
        for one, other in [("A", "A"), ("A", "B"), ("abcd", "dcba")]:
            told = way(DISH, one, other)
            way(DISH, one, other).clear()
            self.assertEqual(way(DISH, one, other), told)

    def test_it_is_told_the_same_again(self):
        for one in calls_up_to(2):
            for other in calls_up_to(2):
                self.assertEqual(way(DISH, one, other), way(Dish(DISH.seats()), one, other))


if __name__ == "__main__":
    unittest.main()
