"""Points 6 to 10 and the interface of gapstone/dish.py, beside swaps by Python's own fractions."""

import unittest
from fractions import Fraction

from gapstone.discs import is_disc, look, touch
from gapstone.dish import Dish
from gapstone.errors import BadCall, BadDisc, BadTouch, BadWord, TooMany, Unclosed
from gapstone.words import call_at, turned, undone
from tests.helpers import (
    MANY_SEATS, ROOTS, STRIP, Refusing, at, calls_up_to, fractions, pair, seats_of, strip_between, swap, turned_out,
    words_up_to,
)

FORTY = "cd" * 20
SEATS = MANY_SEATS[0]
NO_WORDS = [("aa", 1), ("abb", 2), ("A", 0), ("abe", 2), (" ", 0), (FORTY + "c", 40), (FORTY + "d", 40), (FORTY + "ce", 41)]
NO_CALLS = ["", "E", "AB", "Aa", "aa", "abb", "a ", "?", FORTY + "c", "ab" * 30]


def plain_root(bends):
    """The root by the words of point 10: its word, and the four bends there in the order of the seats."""
    bends, word = fractions(bends), ""
    while True:
        seat = bends.index(max(bends))
        new = 2 * (sum(bends) - bends[seat]) - bends[seat]
        if new >= bends[seat]:
            return word, bends
        bends[seat] = new
        word += "abcd"[seat]


class Begun(Refusing):
    def test_of_a_list_and_of_a_tuple(self):
        for seats in MANY_SEATS:
            self.assertEqual(Dish(seats).seats(), seats)
            self.assertEqual(Dish(tuple(seats)).seats(), seats)
            self.assertEqual(Dish(discs=seats).seats(), seats)
            self.assertEqual(Dish(seats), Dish(tuple(seats)))

    def test_in_any_order_of_the_seats(self):
        a, b, c, d = SEATS
        for seats in [[b, a, c, d], [d, c, b, a], [c, a, d, b]]:
            self.assertEqual(Dish(seats).seats(), seats)
            self.assertEqual(Dish(seats).root()[1], [(-1, 1), (2, 1), (2, 1), (3, 1)])

    def test_the_handed_list_changed_behind_it(self):
        handed = list(SEATS)
        dish = Dish(handed)
        self.assertEqual(handed, SEATS)
        handed[0] = at(5, 5, 1)
        handed.pop()
        self.assertEqual(dish.seats(), SEATS)
        self.assertEqual(dish, Dish(SEATS))
        self.assertEqual(dish.four("a"), swap(SEATS, "a"))
        handed.clear()
        self.assertEqual((len(dish), dish.bends()), (4, [(-1, 1), (2, 1), (2, 1), (3, 1)]))

    def test_all_bends_above_nought_but_the_root_has_one_below(self):
        for seats in MANY_SEATS[:5]:
            for word in ["a", "ab", "abc", "badc"]:
                behind = swap(seats, word)
                self.assertTrue(all([bend > (0, 1) for bend in [one[1] for one in behind]]), word)
                self.assertEqual(Dish(behind).seats(), behind)
                self.assertEqual(Dish(behind).root()[0], word[::-1])

    def test_another_count_of_discs(self):
        for discs in [[], SEATS[:1], SEATS[:3], [*SEATS, SEATS[0]], [*SEATS, at(0, 0, 7)], SEATS * 2, SEATS * 100]:
            self.refused(BadDisc, {"at": 4}, Dish, discs)
            self.refused(BadDisc, {"at": 4}, Dish, tuple(discs))

    def test_the_first_of_the_first_four_that_is_none(self):
        nones = [((0, 1), (0, 1), (1, 1), (0, 1)), ((1, 1), (1, 1), (0, 1), (0, 1)), (), SEATS[1][:3], SEATS[0] + SEATS[1],
                 ((2, 2), (-1, 1), (0, 1), (0, 1)), ((1, 1), (-1, 1), (0, 1), (0, 0))]
        for none in nones:
            for place in range(4):
                discs = list(SEATS)
                discs[place] = none
                self.refused(BadDisc, {"at": place}, Dish, discs)
                self.refused(BadDisc, {"at": place}, Dish, discs + [none])
                self.refused(BadDisc, {"at": place}, Dish, discs[:place + 1])
                self.refused(BadDisc, {"at": place}, Dish, discs[:place + 1] + [none] * 3)
            self.refused(BadDisc, {"at": 4}, Dish, [*SEATS, none])

    def test_straight_lines_are_none(self):
        self.refused(BadDisc, {"at": 0}, Dish, STRIP)
        self.refused(BadDisc, {"at": 2}, Dish, [STRIP[2], STRIP[3], STRIP[0], STRIP[1]])
        self.refused(BadDisc, {"at": 1}, Dish, swap(STRIP, "a"))

    def test_two_alone_that_do_not_touch(self):
        for seats in MANY_SEATS:
            for place in range(4):
                for later in range(place + 1, 4):
                    one, other = "abcd"[place], "abcd"[later]
                    # The swap of the other behind that of the one brings a disc that touches all but the one.
                    for gone in [later, place]:
                        discs = list(seats)
                        discs[gone] = swap(seats, one + other if gone == later else other + one)[gone]
                        self.refused(BadTouch, {"one": one, "other": other}, Dish, discs)

    def test_the_first_two_of_several_that_do_not_touch(self):
        a, b, c, d = SEATS
        far = at(9, 9, 1)
        for discs, one, other in [([a, a, b, c], "a", "b"), ([a, b, a, c], "a", "c"), ([a, b, c, a], "a", "d"),
                                  ([a, b, b, c], "b", "c"), ([a, b, c, b], "b", "d"), ([a, b, c, c], "c", "d"),
                                  ([far, b, c, d], "a", "b"), ([b, far, c, d], "a", "b"), ([b, c, far, d], "a", "c"),
                                  ([b, c, d, far], "a", "d"), ([a, b, c, far], "a", "d")]:
            self.refused(BadTouch, {"one": one, "other": other}, Dish, discs)

    def test_the_sum_of_bends_counts_too(self):
        out = [turned_out(one) for one in SEATS]
        self.refused(BadTouch, {"one": "a", "other": "b"}, Dish, out)
        behind = [turned_out(one) for one in swap(SEATS, "a")]
        self.refused(BadTouch, {"one": "a", "other": "b"}, Dish, behind)

    def test_between_two_straight_lines(self):
        for strip in [STRIP, strip_between(3, 5), strip_between(Fraction(22, 7), Fraction(-1, 3))]:
            for word in ["ab", "ba", "abc", "abd", "bacd", "abcdab", "acbdacbd", "cacbcdba", "cdcdab"]:
                seats = swap(strip, word)
                if all([is_disc(one) for one in seats]):
                    self.assertTrue(all([top > 0 for top, bottom in [one[1] for one in seats]]))
                    self.refused(Unclosed, {}, Dish, seats)
                    self.refused(Unclosed, {}, Dish, tuple(seats))

    def test_such_fours_are_among_them(self):
        self.assertEqual([one[1] for one in swap(STRIP, "ab")], [(4, 1), (12, 1), (1, 1), (1, 1)])
        self.refused(Unclosed, {}, Dish, swap(STRIP, "ab"))
        self.refused(Unclosed, {}, Dish, swap(STRIP, "abcdabcdabcd"))

    def test_the_root_too_many_swaps_away(self):
        for word in ["cd" * 201, "abcd" * 101, "acbc" * 101]:
            for seats in [MANY_SEATS[0], MANY_SEATS[3]]:
                self.assertEqual(len(plain_root([one[1] for one in swap(seats, word[:30])])[0]), 30)
                self.assertEqual(Dish(swap(seats, word[:399])).root()[0], word[:399][::-1])
                self.assertEqual(Dish(swap(seats, word[:400])).root()[0], word[:400][::-1])
                self.refused(TooMany, {"most": 400}, Dish, swap(seats, word[:401]))
                self.refused(TooMany, {"most": 400}, Dish, swap(seats, word[:402]))

    def test_numbers_of_forty_figures(self):
        for big in [10 ** 39 + 1, 10 ** 19]:
            seats = seats_of(ROOTS[0], move=(Fraction(1, big), 7), grow=Fraction(1, 10 ** 9))
            self.assertEqual(Dish(seats).seats(), seats)
        # As many swaps as a hand can't count lie between such a bend and its root.
        wide = 10 ** 18
        seats = [at(0, 0, -1), at(Fraction(1, 2), 0, 2), *self.deep_in_the_chain(wide)]
        self.refused(TooMany, {"most": 400}, Dish, seats)

    def deep_in_the_chain(self, many):
        """Two neighbours in the chain of stones that touch the rim and the stone to its right."""
        # Between circles with the bends -1 and 2 that touch at (1, 0) the chain's bends are n n + 2.
        told = []
        for n in [many, many + 1]:
            bend = n * n + 2
            x, y = Fraction(n * n - 1, bend), Fraction(2 * n, bend)
            told.append(at(x, y, bend))
        return told

    def test_each_refusal_goes_ahead_of_the_next(self):
        none = ((0, 1), (0, 1), (1, 1), (0, 1))
        strip, deep = swap(STRIP, "ab"), swap(STRIP, "ab" + "cdab" * 101)
        self.refused(BadDisc, {"at": 3}, Dish, [SEATS[0], SEATS[0], SEATS[0], none])
        self.refused(BadDisc, {"at": 4}, Dish, [SEATS[0], SEATS[0], SEATS[0]])
        self.refused(BadDisc, {"at": 4}, Dish, [*strip, strip[0]])
        self.refused(BadTouch, {"one": "c", "other": "d"}, Dish, [*strip[:3], strip[2]])
        self.refused(BadTouch, {"one": "c", "other": "d"}, Dish, [*deep[:3], deep[2]])
        self.refused(TooMany, {"most": 400}, Dish, deep)
        self.refused(Unclosed, {}, Dish, swap(STRIP, "ab" + "cdab" * 90))


class Fours(Refusing):
    def test_seats_and_bends(self):
        for seats in MANY_SEATS:
            dish = Dish(seats)
            self.assertEqual(dish.seats(), seats)
            self.assertEqual(dish.bends(), [one[1] for one in seats])
            self.assertEqual([type(dish.seats()), type(dish.bends())], [list, list])
        self.assertEqual(Dish(SEATS).bends(), [(-1, 1), (2, 1), (2, 1), (3, 1)])

    def test_plain_ones(self):
        dish = Dish(SEATS)
        self.assertEqual([one[1] for one in dish.four("a")], [(15, 1), (2, 1), (2, 1), (3, 1)])
        self.assertEqual([one[1] for one in dish.four("d")], [(-1, 1), (2, 1), (2, 1), (3, 1)])
        self.assertEqual([one[1] for one in dish.four("db")], [(-1, 1), (6, 1), (2, 1), (3, 1)])
        self.assertEqual(dish.four(word="")[0], at(0, 0, -1))
        self.assertEqual(dish.four(word="d")[3], at(0, Fraction(2, 3), 3))

    def test_beside_swaps_part_by_part(self):
        for seats in MANY_SEATS:
            dish = Dish(seats)
            for word in [*words_up_to(2), "abcd", "dcbad", FORTY, "abcd" * 10, "acbd" * 10, FORTY[:39]]:
                told = dish.four(word)
                self.assertEqual(told, swap(seats, word))
                self.assertEqual([type(told), *[type(one) for one in told]], [list] + [tuple] * 4)
            self.assertEqual(dish.seats(), seats)

    def test_they_touch_two_by_two(self):
        for seats in MANY_SEATS:
            for word in words_up_to(2):
                four = Dish(seats).four(word)
                for place in range(4):
                    self.assertTrue(is_disc(four[place]))
                    self.assertTrue(all([touch(four[place], four[later]) for later in range(4) if later != place]))

    def test_a_swap_brings_the_other_disc_and_twice_the_same(self):
        for seats in MANY_SEATS:
            for letter in "abcd":
                there = Dish(Dish(seats).four(letter)).four(letter)
                self.assertEqual(there, seats)

    def test_no_words(self):
        dish = Dish(SEATS)
        for text, place in NO_WORDS:
            self.refused(BadWord, {"at": place}, dish.four, text)
            self.refused(BadWord, {"at": place}, dish.led, text)
        self.assertEqual(dish, Dish(SEATS))

    def test_told_lists_are_new(self):
        for seats in MANY_SEATS[:3]:
            dish = Dish(seats)
            dish.seats().clear()
            dish.seats()[0] = None
            dish.bends().append(5)
            dish.four("").pop()
            dish.four("ab")[1] = None
            dish.root()[1].reverse()
            self.assertIsNot(dish.seats(), dish.seats())
            self.assertIsNot(dish.four(""), dish.four(""))
            self.assertEqual(dish.seats(), seats)
            self.assertEqual(dish.bends(), [one[1] for one in seats])
            self.assertEqual(dish.four(""), seats)
            self.assertEqual(dish.four("ab"), swap(seats, "ab"))
            self.assertEqual(dish.root(), Dish(seats).root())
            self.assertEqual(dish.root()[1], Dish(list(seats)).root()[1])


class Stones(Refusing):
    def test_great_letters(self):
        for seats in MANY_SEATS:
            self.assertEqual([Dish(seats).stone(call) for call in "ABCD"], seats)

    def test_each_call_against_the_four_of_its_word(self):
        for seats in MANY_SEATS:
            dish = Dish(seats)
            for call in [*words_up_to(3)[1:], FORTY, "abcd" * 10, "ba" * 19 + "bd"]:
                self.assertEqual(dish.stone(call), swap(seats, call)["abcd".index(call[-1])])
                self.assertEqual(dish.stone(call=call), dish.four(call)["abcd".index(call[-1])])

    def test_the_stone_on_each_seat_of_each_word(self):
        for seats in MANY_SEATS[3:8]:
            dish = Dish(seats)
            for word in words_up_to(3):
                self.assertEqual([dish.stone(call_at(word, letter)) for letter in "abcd"], dish.four(word))

    def test_each_stone_has_just_one_call(self):
        for seats in MANY_SEATS:
            dish = Dish(seats)
            stones = [dish.stone(call) for call in calls_up_to(4)]
            self.assertEqual(len(set(stones)), len(stones))

    def test_no_two_have_more_than_one_place_in_common(self):
        for seats in MANY_SEATS[2:9:2]:
            dish = Dish(seats)
            stones = [dish.stone(call) for call in calls_up_to(3)]
            for place, one in enumerate(stones):
                for other in stones[:place]:
                    self.assertLessEqual(Fraction(*look(one, other)), -1)
                    self.assertGreater(Fraction(*one[1]) + Fraction(*other[1]), 0)

    def test_just_one_bend_is_below_nought(self):
        for seats in MANY_SEATS[:5]:
            bends = [Dish(seats).stone(call)[1] for call in calls_up_to(4)]
            self.assertEqual(len([bend for bend in bends if bend[0] <= 0]), 1)

    def test_no_calls(self):
        dish = Dish(SEATS)
        for text in NO_CALLS:
            self.refused(BadCall, {}, dish.stone, text)
            self.refused(BadCall, {}, dish.touching, text, "A")
            self.refused(BadCall, {}, dish.touching, "ab", text)
            self.refused(BadCall, {}, dish.touching, text, text)


class Touching(unittest.TestCase):
    def test_the_four_of_each_word(self):
        for seats in MANY_SEATS[:8:3]:
            dish = Dish(seats)
            for word in words_up_to(3):
                calls = [call_at(word, letter) for letter in "abcd"]
                for one in calls:
                    for other in calls:
                        self.assertIs(dish.touching(one, other), one != other)

    def test_just_those_that_share_a_four(self):
        calls = calls_up_to(3)
        fours = [{call_at(word, letter) for letter in "abcd"} for word in words_up_to(3)]
        dish = Dish(MANY_SEATS[6])
        for one in calls:
            for other in calls:
                shared = any([one in four and other in four for four in fours])
                self.assertIs(dish.touching(one, other), one != other and shared, (one, other))

    def test_by_names(self):
        dish = Dish(SEATS)
        self.assertIs(dish.touching(other="a", one="A"), False)
        self.assertIs(dish.touching(other="a", one="B"), True)
        self.assertIs(dish.touching("ab", FORTY), False)
        self.assertIs(dish.touching(FORTY, FORTY), False)
        self.assertIs(dish.touching(FORTY, FORTY[:39]), True)


class Led(Refusing):
    def test_it_is_begun_by_the_four_of_the_word(self):
        for seats in MANY_SEATS:
            for word in [*words_up_to(2), "abcd", FORTY]:
                led = Dish(seats).led(word)
                self.assertIsInstance(led, Dish)
                self.assertEqual(led.seats(), swap(seats, word))
                self.assertEqual(led, Dish(Dish(seats).four(word)))
                self.assertEqual(Dish(seats).led(word=word), led)

    def test_led_and_led_back(self):
        for seats in MANY_SEATS:
            dish = Dish(seats)
            for word in [*words_up_to(3), "abcd" * 10]:
                self.assertEqual(dish.led(word).led(undone(word)), dish)
            self.assertEqual(dish.seats(), seats)

    def test_the_same_stones_under_turned_calls(self):
        for seats in MANY_SEATS[:8:3]:
            dish = Dish(seats)
            for word in words_up_to(2):
                led = dish.led(word)
                for call in calls_up_to(2):
                    self.assertEqual(led.stone(turned(call, word)), dish.stone(call))

    def test_too_far_from_the_root(self):
        dish = Dish(SEATS)
        for turn in range(10):
            dish = dish.led(FORTY)
        self.assertEqual(len(dish.root()[0]), 400)
        kept = dish.seats()
        for word in ["c", "a", "b", "cd", "ab", FORTY]:
            self.refused(TooMany, {"most": 400}, dish.led, word)
        self.assertEqual(dish.seats(), kept)
        self.assertEqual(dish.led("d").led("d"), dish)
        self.refused(BadWord, {"at": 1}, dish.led, "cc")


class Root(unittest.TestCase):
    def test_at_the_root(self):
        for bends in ROOTS:
            self.assertEqual(Dish(seats_of(bends)).root(), ("", [(bend, 1) for bend in bends]))
            self.assertEqual(Dish(seats_of(bends)[::-1]).root(), ("", [(bend, 1) for bend in bends]))

    def test_by_the_words_of_the_document(self):
        for seats in MANY_SEATS:
            for word in [*words_up_to(3), "dcbadcba", FORTY]:
                dish = Dish(swap(seats, word))
                way, bends = plain_root(dish.bends())
                self.assertEqual(dish.root(), (way, [pair(bend) for bend in sorted(bends)]))
                self.assertEqual([type(dish.root()), type(dish.root()[1])], [tuple, list])

    def test_the_word_leads_to_the_bends_which_rise(self):
        for seats in MANY_SEATS:
            for word in words_up_to(3):
                way, bends = Dish(swap(seats, word)).root()
                there = swap(swap(seats, word), way)
                self.assertEqual(sorted(fractions([one[1] for one in there])), fractions(bends))

    def test_the_same_bends_from_any_four(self):
        for seats in MANY_SEATS:
            told = Dish(seats).root()[1]
            for word in [*words_up_to(3), "acbd" * 10]:
                self.assertEqual(Dish(swap(seats, word)).root()[1], told)
                self.assertEqual(Dish(swap(seats, word)[::-1]).root()[1], told)

    def test_bends_rise_by_their_worth(self):
        dish = Dish(seats_of((-2, 3, 6, 7), grow=Fraction(7, 3)))
        self.assertEqual(dish.root(), ("", [(-6, 7), (9, 7), (18, 7), (3, 1)]))

    def test_a_swap_that_makes_the_greatest_bend_no_less_is_not_done(self):
        # The swap of 3 brings 3 again; either 8 brings 12.
        self.assertEqual(Dish(SEATS).root()[0], "")
        a, b, c, d = seats_of((-3, 5, 8, 8))
        for seats in [[a, b, c, d], [c, a, d, b], [d, c, b, a]]:
            self.assertEqual(Dish(seats).root()[0], "")

    def test_no_swap_from_the_root_on_brings_a_lesser_bend(self):
        for seats in MANY_SEATS[:5]:
            for word in words_up_to(4)[1:]:
                old, new = swap(seats, word[:-1]), swap(seats, word)
                seat = "abcd".index(word[-1])
                self.assertGreaterEqual(Fraction(*new[seat][1]), Fraction(*old[seat][1]))


class Shown(unittest.TestCase):
    def test_equal_by_their_seats_in_order(self):
        for place, seats in enumerate(MANY_SEATS):
            for other_place, other in enumerate(MANY_SEATS):
                self.assertIs(Dish(seats) == Dish(other), place == other_place)
                self.assertIs(Dish(seats) != Dish(other), place != other_place)
        a, b, c, d = SEATS
        self.assertFalse(Dish([a, b, c, d]) == Dish([b, a, c, d]))
        self.assertFalse(Dish(SEATS) == Dish(SEATS).led("a"))
        self.assertTrue(Dish(SEATS) == Dish(SEATS).led("a").led("a"))

    def test_to_nothing_else(self):
        dish = Dish(SEATS)
        for other in [SEATS, tuple(SEATS), str(dish), repr(dish), None, 4, True, dish.root(), {}]:
            self.assertIs(dish == other, False)
            self.assertIs(other == dish, False)
            self.assertIs(dish != other, True)

    def test_len(self):
        for seats in MANY_SEATS:
            self.assertEqual(len(Dish(seats)), 4)

    def test_texts(self):
        self.assertEqual(str(Dish(SEATS)), "1,-1,0,0 0,2,1,0 0,2,-1,0 1,3,0,-2")
        self.assertEqual(repr(Dish(SEATS)), "Dish(1,-1,0,0 0,2,1,0 0,2,-1,0 1,3,0,-2)")
        half = Dish(seats_of((-2, 3, 6, 7)))
        self.assertEqual(str(half), "1/2,-2,0,0 -1/4,3,1/2,0 1/2,6,-2,0 3/4,7,-3/2,-2")
        self.assertEqual(repr(half), "Dish(1/2,-2,0,0 -1/4,3,1/2,0 1/2,6,-2,0 3/4,7,-3/2,-2)")
        self.assertEqual(str(half.led("abc")), str(Dish(half.four("abc"))))


if __name__ == "__main__":
    unittest.main()
