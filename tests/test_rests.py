"""Point 15 and the interface of gapstone/rests.py, beside the bends of stones and all quadruples there are."""

import copy
import unittest
from itertools import product

from gapstone.dish import Dish
from gapstone.errors import BadNumber, NotWhole
from gapstone.rests import lot, lot_holds, rests
from gapstone.sizes import up_to
from tests.helpers import MANY_SEATS, ROOTS, Refusing, fractions, seats_of, swap, words_up_to

DISHES = [Dish(swap(seats_of(bends), word)) for bends in ROOTS for word in ("", "dab")]
DISH = DISHES[0]
BYS = range(2, 13)
# Dishes and the first seat whose bend is not whole. It is never d: where three bends are whole the fourth is too.
NOT_WHOLE = [
    (Dish(seats_of(ROOTS[0], grow=2)), "a"),
    (Dish(seats_of(ROOTS[1], grow=2)), "b"),
    (Dish(seats_of((-2, 6, 3, 7), grow=2)), "c"),
    (Dish(seats_of((-2, 6, 3, 7), grow=3)), "a"),
    (Dish(seats_of((-6, 14, 11, 15), grow=2)), "c"),
]
NO_NUMBERS = [1, 0, -1, -2, -12, 13, 14, 100, 10 ** 39, -10 ** 39, int("9" * 40)]


def by_rests(numbers, by):
    return tuple([one % by for one in numbers])


def swaps(four):
    """The fours behind a swap of each seat, by the words of the point."""
    told = []
    for seat in range(4):
        others = [one for at, one in enumerate(four) if at != seat]
        told.append(tuple([2 * sum(others) - one if at == seat else one for at, one in enumerate(four)]))
    return told


def plain_lot(bends, by):
    """What swaps lead to, again and again, until nothing new comes."""
    known = {by_rests(bends, by)}
    while True:
        more = known | {by_rests(other, by) for four in known for other in swaps(four)}
        if more == known:
            return sorted(known)
        known = more


def whole_bends(dish):
    return [int(one) for one in fractions(dish.bends())]


class Lot(Refusing):
    def test_plain_ones(self):
        self.assertEqual(lot(DISH, 2), [(1, 0, 0, 1)])
        self.assertEqual(lot(by=3, dish=DISH), plain_lot([-1, 2, 2, 3], 3))
        self.assertEqual(lot(DISH, 12), plain_lot([-1, 2, 2, 3], 12))
        self.assertEqual(rests(DISH, 2), [0, 1])
        self.assertEqual(rests(by=12, dish=DISH), [2, 3, 6, 11])

    def test_the_least_lot(self):
        for dish in DISHES:
            for by in BYS:
                told = lot(dish, by)
                self.assertEqual(told, plain_lot(whole_bends(dish), by))
                self.assertEqual(told, sorted(set(told)))
                self.assertIs(lot_holds(dish, by, told), True)
                self.assertEqual({len(four) for four in told}, {4})
                self.assertEqual(rests(dish, by), sorted({rest for four in told for rest in four}))

    def test_no_fewer_quadruples_are_a_lot(self):
        for dish in DISHES[:4]:
            for by in (2, 3, 5, 8, 12):
                told = lot(dish, by)
                for at in range(len(told)):
                    self.assertIs(lot_holds(dish, by, told[:at] + told[at + 1:]), False)

    def test_seats_of_great_bends(self):
        # Moved far away and led far from the root the bends stay whole, of more figures.
        dish = Dish(swap(seats_of(ROOTS[0], move=(10 ** 30, -7)), "abcd" * 10))
        for by in BYS:
            self.assertEqual(lot(dish, by), plain_lot(whole_bends(dish), by))

    def test_bends_have_their_rests_in_the_lot(self):
        for dish in DISHES:
            fours = [dish.led(word).bends() for word in words_up_to(3)]
            bends = [bend for bend, call in up_to(dish, (200, 1), most=5000)]
            self.assertEqual({bend[1] for bend in bends}, {1})
            for by in BYS:
                self.assertLessEqual({by_rests([bend[0] for bend in four], by) for four in fours}, set(lot(dish, by)))
                self.assertLessEqual({bend[0] % by for bend in bends}, set(rests(dish, by)))

    def test_a_rest_that_is_in_no_lot_never_comes(self):
        bends = {bend[0] for bend, call in up_to(DISH, (300, 1), most=5000)}
        for by in BYS:
            missing = [bend for bend in range(-1, 301) if bend % by not in rests(DISH, by)]
            self.assertEqual(bends & set(missing), set())
        self.assertEqual([rest for rest in range(12) if rest not in rests(DISH, 12)], [0, 1, 4, 5, 7, 8, 9, 10])

    def test_numbers_that_are_none(self):
        for number in NO_NUMBERS:
            self.refused(BadNumber, {"number": number}, lot, DISH, number)
            self.refused(BadNumber, {"number": number}, rests, DISH, number)
            self.refused(BadNumber, {"number": number}, lot_holds, DISH, number, [(0, 0, 0, 0)])
            self.refused(BadNumber, {"number": number}, lot_holds, DISH, number, [])

    def test_bends_that_are_not_whole(self):
        for dish, letter in NOT_WHOLE:
            for by in [*BYS, *NO_NUMBERS]:
                self.refused(NotWhole, {"letter": letter}, lot, dish, by)
                self.refused(NotWhole, {"letter": letter}, rests, dish, by)
                self.refused(NotWhole, {"letter": letter}, lot_holds, dish, by, [(0, 0, 0, 0)])
                self.refused(NotWhole, {"letter": letter}, lot_holds, dish, by, [])

    def test_the_first_seat_that_is_not_whole(self):
        for seats in MANY_SEATS:
            for order in [seats, seats[::-1], seats[1:] + seats[:1]]:
                dish = Dish(order)
                unlike = [letter for letter, bend in zip("abcd", dish.bends()) if bend[1] != 1]
                if unlike == []:
                    self.assertIs(lot_holds(dish, 7, lot(dish, 7)), True)
                else:
                    self.refused(NotWhole, {"letter": unlike[0]}, lot, dish, 7)

    def test_told_lists_are_new(self):
        lot(DISH, 5).clear()
        rests(DISH, 5).clear()
        self.assertEqual(lot(DISH, 5), plain_lot([-1, 2, 2, 3], 5))
        self.assertEqual(rests(DISH, 5), sorted({rest for four in lot(DISH, 5) for rest in four}))
        self.assertIsInstance(lot(DISH, 5)[0], tuple)


class LotHolds(Refusing):
    def test_in_any_order_and_perhaps_twice(self):
        for dish in DISHES:
            for by in BYS:
                told = lot(dish, by)
                for rows in [told[::-1], told + told, told[1:] + told[:2], sorted(told, key=sum)]:
                    before = copy.deepcopy(rows)
                    self.assertIs(lot_holds(rows=rows, by=by, dish=dish), True)
                    self.assertEqual(rows, before)

    def test_the_empty_list(self):
        for by in BYS:
            self.assertIs(lot_holds(DISH, by, []), False)

    def test_all_quadruples(self):
        for by in BYS:
            every = list(product(range(by), repeat=4))
            self.assertIs(lot_holds(DISH, by, every), True)
            # All noughts lead to themselves alone, so the others are a lot without them.
            self.assertIs(lot_holds(DISH, by, every[1:]), True)
            every.remove(by_rests([-1, 2, 2, 3], by))
            self.assertIs(lot_holds(DISH, by, every), False)

    def test_one_more(self):
        for by in (2, 3, 4):
            told = lot(DISH, by)
            for more in product(range(by), repeat=4):
                alone = set(plain_lot(more, by))
                self.assertIs(lot_holds(DISH, by, told + [more]), alone <= {*told, more}, more)
                self.assertIs(lot_holds(DISH, by, told + sorted(alone)), True)

    def test_another_one_in_its_place(self):
        told = lot(DISH, 5)
        for at in range(len(told)):
            other = tuple([(rest + 1) % 5 for rest in told[at]])
            if other not in told:
                self.assertIs(lot_holds(DISH, 5, told[:at] + [other] + told[at + 1:]), False)

    def test_a_lot_without_the_seats(self):
        for by in BYS:
            self.assertIs(lot_holds(DISH, by, [(0, 0, 0, 0)]), False)
            self.assertIs(lot_holds(DISH, by, lot(DISH, by) + [(0, 0, 0, 0)]), True)

    def test_rests_out_of_their_bounds(self):
        for by in BYS:
            told = lot(DISH, by)
            for off in (by, -by, by * 10 ** 37, -by * 10 ** 37):
                for seat in range(4):
                    odd = [tuple([rest + off if at == seat else rest for at, rest in enumerate(four)]) for four in told]
                    self.assertIs(lot_holds(DISH, by, odd), False)
                    self.assertIs(lot_holds(DISH, by, told + odd), False)
                    self.assertIs(lot_holds(DISH, by, told + odd[:1]), False)
            self.assertIs(lot_holds(DISH, by, told + [(0, 0, 0, by)]), False)
            self.assertIs(lot_holds(DISH, by, told + [(-1, 0, 0, 0)]), False)

    def test_another_dish_or_number(self):
        self.assertIs(lot_holds(Dish(seats_of(ROOTS[1])), 3, lot(DISH, 3)), lot(Dish(seats_of(ROOTS[1])), 3) == lot(DISH, 3))
        self.assertIs(lot_holds(DISH, 4, lot(DISH, 5)), False)
        self.assertIs(lot_holds(DISH, 7, lot(DISH, 5)), False)


if __name__ == "__main__":
    unittest.main()
