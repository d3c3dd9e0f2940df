"""Point 14 and the interface of gapstone/sizes.py, beside the bends of all stones of short calls."""

import copy
import random
import unittest
from fractions import Fraction

from gapstone import sizes
from gapstone.dish import Dish
from gapstone.errors import TooMany
from gapstone.sizes import all_up_to, sized, up_to
from tests.helpers import (
    LETTERS, MANY_SEATS, ROOTS, SEEN_SEATS, Refusing, call_in, fractions, pair, seats_of, seen_from, swap, words_up_to,
)

SEATS = seats_of(ROOTS[0])
DISH = Dish(SEATS)
ALL = 10 ** 6
FIFTEEN = [
    ((-1, 1), "A"), ((2, 1), "B"), ((2, 1), "C"), ((3, 1), "D"), ((3, 1), "d"), ((6, 1), "b"), ((6, 1), "c"),
    ((6, 1), "db"), ((6, 1), "dc"), ((11, 1), "bd"), ((11, 1), "cd"), ((11, 1), "dbd"), ((11, 1), "dcd"),
    ((14, 1), "bc"), ((14, 1), "cb"), ((14, 1), "dbc"), ((14, 1), "dcb"), ((15, 1), "a"), ((15, 1), "da"),
]


def short_bends(bends, many):
    """Pairs (bend, call) of all stones whose calls have at most so many letters; and the least bend of the longest."""
    told = list(zip(bends, "ABCD"))
    ends = [("", list(bends))]
    for length in range(many):
        longer = []
        for word, four in ends:
            for seat, letter in enumerate(LETTERS):
                if not word.endswith(letter):
                    brought = list(four)
                    brought[seat] = 2 * (sum(four) - four[seat]) - four[seat]
                    longer.append((word + letter, brought))
                    told.append((brought[seat], word + letter))
        ends = longer
    return told, min([bend for bend, call in told if len(call) == many and call.islower()])


def rising(rows):
    """Pairs (bend, call) as they are told."""
    return [(pair(bend), call) for bend, call in sorted(rows, key=lambda row: (row[0], len(row[1]), row[1]))]


def plain_up_to(seats, to_root, many):
    """A bound, and the pairs up to it by brute force from the root on, through all calls of so many letters."""
    told, least = short_bends([Fraction(*one[1]) for one in swap(seats, to_root)], many)
    # Beyond the longest calls all bends are greater yet.
    bound = least - Fraction(1, 10 ** 9)
    return pair(bound), rising([(bend, call_in(call, to_root[::-1])) for bend, call in told if bend <= bound])


class UpTo(Refusing):
    def test_most_listed(self):
        self.assertEqual(sizes.MOST_LISTED, 300)

    def test_plain_ones(self):
        self.assertEqual(up_to(DISH, (15, 1)), FIFTEEN)
        self.assertEqual(up_to(bound=(15, 1), dish=DISH), FIFTEEN)
        self.assertEqual(up_to(DISH, (15, 1), most=19), FIFTEEN)
        self.assertEqual(up_to(most=400, bound=(2, 1), dish=DISH), FIFTEEN[:3])

    def test_bounds(self):
        for bound, many in [((-2, 1), 0), ((-1001, 1000), 0), ((-1, 1), 1), ((0, 1), 1), ((-1, 2), 1), ((1999, 1000), 1),
                            ((2, 1), 3), ((5, 2), 3), ((3, 1), 5), ((4, 1), 5), ((59, 10), 5), ((6, 1), 9), ((6001, 1000), 9),
                            ((11, 1), 13), ((13, 1), 13), ((14, 1), 17), ((29, 2), 17), ((-10 ** 39, 1), 0)]:
            self.assertEqual(up_to(DISH, bound), FIFTEEN[:many], bound)

    def test_against_all_stones_of_short_calls(self):
        for bends, many in zip(ROOTS, (8, 7, 6, 6, 6)):
            for word in ("", "a", "dc", "abcab", "bdbcadc"):
                seats = swap(seats_of(bends), word)
                dish = Dish(seats)
                bound, told = plain_up_to(seats, dish.root()[0], many)
                self.assertGreater(len(told), 10)
                self.assertEqual(up_to(dish, bound), told)
                self.assertEqual([one for one, call in told], [dish.stone(call)[1] for one, call in told])

    def test_dishes_of_other_bends(self):
        for seats in [*MANY_SEATS, *SEEN_SEATS]:
            dish = Dish(seats)
            bound, told = plain_up_to(seats, dish.root()[0], 6)
            self.assertGreater(len(told), 8)
            self.assertEqual(up_to(dish, bound), told)

    def test_each_bend_as_the_bound_and_just_about_it(self):
        for seats in [MANY_SEATS[6], MANY_SEATS[9], SEEN_SEATS[1]]:
            dish = Dish(seats)
            told = up_to(dish, pair(5 * max(fractions(dish.root()[1]))))
            for bend, call in told:
                worth, little = Fraction(*bend), Fraction(1, 10 ** 30)
                self.assertEqual(up_to(dish, bend), [row for row in told if Fraction(*row[0]) <= worth])
                self.assertEqual(up_to(dish, pair(worth + little)), up_to(dish, bend))
                self.assertEqual(up_to(dish, pair(worth - little)), [row for row in told if Fraction(*row[0]) < worth])

    def test_the_same_stones_in_the_dish_led(self):
        for word in words_up_to(3) + ["abcdabcdabcdabcdabcd", "cd" * 20]:
            rows = [(Fraction(*bend), call_in(call, word)) for bend, call in up_to(DISH, (40, 1))]
            self.assertEqual(up_to(DISH.led(word), (40, 1)), rising(rows))

    def test_as_far_from_the_root_as_may_be(self):
        word = "cd" * 200
        seats = swap(SEATS, word)
        dish = Dish(seats)
        self.assertEqual(len(dish.root()[0]), 400)
        rows = [(Fraction(*bend), call_in(call, word)) for bend, call in FIFTEEN]
        told = up_to(dish, (15, 1))
        self.assertEqual(told, rising(rows))
        self.assertGreater(max([len(call) for bend, call in told]), 400)

    def test_calls_of_one_bend_rise_by_their_length(self):
        for word in ("", "bcb", "dadcb"):
            told = up_to(DISH.led(word), (60, 1))
            self.assertEqual(told, sorted(told, key=lambda row: (row[0][0], len(row[1]), row[1])))
            self.assertEqual(len({call for bend, call in told}), len(told))
            # Calls of one bend with several lengths: else this would tell nothing.
            self.assertGreater(len({(bend, len(call)) for bend, call in told}), len({bend for bend, call in told}))

    def test_too_many(self):
        for bound, many in [((15, 1), 19), ((2, 1), 3), ((-1, 1), 1), ((14, 1), 17)]:
            self.assertEqual(up_to(DISH, bound, most=many), FIFTEEN[:many])
            self.refused(TooMany, {"most": many - 1}, up_to, DISH, bound, most=many - 1)
            self.refused(TooMany, {"most": 0}, up_to, DISH, bound, most=0)
        self.assertEqual(up_to(DISH, (-3, 2), most=0), [])
        self.refused(TooMany, {"most": 1000}, up_to, DISH, (10 ** 39, 1), most=1000)

    def test_three_hundred_where_it_is_left_out(self):
        told = up_to(DISH, (250, 1), most=ALL)
        self.assertGreater(len(told), 301)
        bends = sorted({bend for bend, call in told}, key=lambda bend: bend[0])
        counts = {bend: len([one for one, call in told if one[0] <= bend[0]]) for bend in bends}
        for bend, many in counts.items():
            if many > 300:
                self.refused(TooMany, {"most": 300}, up_to, DISH, bend)
            else:
                self.assertEqual(up_to(DISH, bend), told[:many])

    def test_just_three_hundred(self):
        # Seen from an odd place hardly two stones have the same bend.
        dish = Dish(seen_from(SEATS, Fraction(12, 91), Fraction(-64, 97)))
        told = up_to(dish, pair(100 * max(fractions(dish.root()[1]))), most=ALL)
        bends = [Fraction(*bend) for bend, call in told]
        self.assertLess(bends[299], bends[300])
        self.assertEqual(up_to(dish, pair(bends[299])), told[:300])
        self.assertEqual(up_to(dish, pair((bends[299] + bends[300]) / 2)), told[:300])
        self.refused(TooMany, {"most": 300}, up_to, dish, pair(bends[300]))

    def test_told_lists_are_new(self):
        told = up_to(DISH, (15, 1))
        told.clear()
        self.assertEqual(up_to(DISH, (15, 1)), FIFTEEN)
        self.assertEqual(DISH, Dish(SEATS))
        self.assertIsInstance(up_to(DISH, (-5, 1)), list)


class AllUpTo(unittest.TestCase):
    def test_the_told_list_in_any_order(self):
        chance = random.Random(1)
        for seats in [*MANY_SEATS, *SEEN_SEATS]:
            dish = Dish(seats)
            bound = pair(3 * max(fractions(dish.root()[1])))
            told = up_to(dish, bound)
            self.assertIs(all_up_to(dish, bound, told), True)
            for turn in range(5):
                chance.shuffle(told)
                before = copy.deepcopy(told)
                self.assertIs(all_up_to(rows=told, dish=dish, bound=bound), True)
                self.assertEqual(told, before)

    def test_one_out_or_more(self):
        for at, row in enumerate(FIFTEEN):
            self.assertIs(all_up_to(DISH, (15, 1), FIFTEEN[:at] + FIFTEEN[at + 1:]), False)
            self.assertIs(all_up_to(DISH, (15, 1), FIFTEEN + [row]), False)
            self.assertIs(all_up_to(DISH, (15, 1), FIFTEEN[:at] + FIFTEEN[at + 1:] + [FIFTEEN[at - 1]]), False)
        for row in [((18, 1), "bdb"), ((18, 1), "A"), ((0, 1), ""), ((-1, 1), "a"), ((15, 1), "aa")]:
            self.assertIs(all_up_to(DISH, (15, 1), FIFTEEN + [row]), False)

    def test_another_bend_or_call(self):
        for at, (bend, call) in enumerate(FIFTEEN):
            for row in [((bend[0] + 1, 1), call), ((bend[0] * 2 + 1, 2), call), (bend, call + "x"), (bend, ""),
                        (bend, call.swapcase()), (bend, "abcd" * 20), (bend, FIFTEEN[at - 1][1])]:
                self.assertIs(all_up_to(DISH, (15, 1), FIFTEEN[:at] + [row] + FIFTEEN[at + 1:]), False, row)

    def test_another_bound(self):
        for bound in [(14, 1), (29, 2), (17, 1), (16, 1), (18, 1), (-5, 1), (10 ** 39, 1)]:
            self.assertIs(all_up_to(DISH, bound, FIFTEEN), 15 <= Fraction(*bound) < 18, bound)

    def test_another_dish(self):
        self.assertIs(all_up_to(DISH.led("a"), (15, 1), FIFTEEN), False)
        self.assertIs(all_up_to(Dish(seats_of(ROOTS[1])), (15, 1), FIFTEEN), False)
        # Moved and turned it has the same bends under the same calls.
        self.assertIs(all_up_to(Dish(MANY_SEATS[8]), (15, 1), FIFTEEN), True)

    def test_lists_of_any_length(self):
        self.assertIs(all_up_to(DISH, (-2, 1), []), True)
        self.assertIs(all_up_to(DISH, (-1, 1), []), False)
        self.assertIs(all_up_to(DISH, (10 ** 39, 1), []), False)
        self.assertIs(all_up_to(DISH, (-2, 1), FIFTEEN), False)
        self.assertIs(all_up_to(DISH, (15, 1), FIFTEEN * 20), False)
        told = up_to(DISH, (250, 1), most=ALL)
        self.assertGreater(len(told), 400)
        self.assertIs(all_up_to(DISH, (250, 1), told), True)
        self.assertIs(all_up_to(DISH, (250, 1), told[1:]), False)
        self.assertIs(all_up_to(DISH, (250, 1), told[1:] + told[:1]), True)


class Sized(Refusing):
    def test_plain_ones(self):
        for bend, calls in [((-1, 1), ["A"]), ((2, 1), ["B", "C"]), ((3, 1), ["D", "d"]), ((6, 1), ["b", "c", "db", "dc"]),
                            ((15, 1), ["a", "da"]), ((1, 1), []), ((4, 1), []), ((13, 1), []), ((-2, 1), []),
                            ((0, 1), []), ((11, 2), []), ((-1, 2), []), ((5, 2), [])]:
            self.assertEqual(sized(DISH, bend), calls, bend)
            self.assertEqual(sized(bend=bend, dish=DISH), calls)

    def test_just_those_of_the_list(self):
        for seats in [*MANY_SEATS, *SEEN_SEATS]:
            dish = Dish(seats)
            told = up_to(dish, pair(4 * max(fractions(dish.root()[1]))))
            for bend in {bend for bend, call in told}:
                calls = sized(dish, bend)
                self.assertEqual(calls, [call for one, call in told if one == bend])
                self.assertEqual(calls, sorted(calls, key=lambda call: (len(call), call)))
                self.assertEqual({dish.stone(call)[1] for call in calls}, {bend})
                self.assertEqual(sized(dish, (bend[0] * 10 ** 20 + 1, bend[1] * 10 ** 20)), [])

    def test_too_many_where_more_have_no_greater_bend(self):
        for bend, many in [((15, 1), 19), ((2, 1), 3), ((13, 1), 13), ((16, 1), 19), ((-1, 1), 1)]:
            self.assertEqual(sized(DISH, bend, most=many), [call for one, call in FIFTEEN if one == bend])
            self.refused(TooMany, {"most": many - 1}, sized, DISH, bend, most=many - 1)
        self.assertEqual(sized(DISH, (-2, 1), most=0), [])
        for bound in range(150, 250):
            many = len(up_to(DISH, (bound, 1), most=ALL))
            if many > 300:
                self.refused(TooMany, {"most": 300}, sized, DISH, (bound, 1))
                self.refused(TooMany, {"most": 300}, sized, DISH, (bound * 2 + 1, 2))
            else:
                self.assertEqual(sized(DISH, (bound, 1)), sized(DISH, (bound, 1), most=many))

    def test_told_lists_are_new(self):
        sized(DISH, (6, 1)).clear()
        self.assertEqual(sized(DISH, (6, 1)), ["b", "c", "db", "dc"])


if __name__ == "__main__":
    unittest.main()
