"""Places in a dish: the stone at a place, and the paper that shows it."""

from gapstone.discs import number
from gapstone.swaps import as_parts, fall, least_at, over_one_under, swapped
from gapstone.words import LETTERS, seat_call

MOST_SWAPS = 200


def numbers_at(dish, place):
    """The numbers of a place at the four seats, as whole numbers over one under."""
    return over_one_under([number(one, place) for one in dish.seats()])


def lies_in(dish, place, most):
    """The call of the stone in which a place lies, and whether it lies on its rim; TooMany."""
    row, under = numbers_at(dish, place)
    word, rows = fall(row, 0, most)
    at = least_at(rows[-1])
    return (seat_call(word, LETTERS[at]), rows[-1][at] == 0)


def find(dish, place, *, most=MOST_SWAPS):
    call, on_rim = lies_in(dish, place, most)
    return call


def paper(dish, place, *, most=MOST_SWAPS):
    row, under = numbers_at(dish, place)
    word, rows = fall(row, 0, most)
    return (word, [as_parts(one, under) for one in rows])


def paper_holds(dish, place, told):
    word, rows = told
    if len(rows) != len(word) + 1:
        return False
    row, under = numbers_at(dish, place)
    for letter, shown in zip(word, rows):
        at = LETTERS.find(letter)
        if at < 0 or shown != as_parts(row, under) or min(row) <= 0:
            return False
        fallen = swapped(row, at)
        if fallen[at] >= row[at]:
            return False
        row = fallen
    return rows[-1] == as_parts(row, under) and min(row) <= 0
