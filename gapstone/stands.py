"""How a disc stands in a dish: as one of its stones, across one, or one within the other."""

from gapstone.discs import look
from gapstone.parts import below
from gapstone.places import MOST_SWAPS
from gapstone.swaps import discs_behind, fall, least_at, over_one_under
from gapstone.words import LETTERS, is_call, seat_call

ONE = (1, 1)
MINUS_ONE = (-1, 1)


def standing(disc, stone):
    """The word for how a disc stands to a stone, or None where its look at it is -1 or less."""
    if disc == stone:
        return "stone"
    seen = look(disc, stone)
    if not below(MINUS_ONE, seen):
        return None
    return "crosses" if below(seen, ONE) else "within"


def looks_fall(dish, disc, most):
    """The word of the swaps of point 12, and the place of the seat with the greatest look behind them; TooMany."""
    # With all signs turned the least look is the greatest number, and the looks fall as the numbers of a place do.
    row, under = over_one_under([look(disc, one) for one in dish.seats()])
    word, rows = fall([-one for one in row], under - 1, most)
    return (word, least_at(rows[-1]))


def stands(dish, disc, *, most=MOST_SWAPS):
    word, at = looks_fall(dish, disc, most)
    stone = discs_behind(dish.seats(), word)[at]
    return (standing(disc, stone), seat_call(word, LETTERS[at]))


def call_of(dish, stone):
    """The call of a disc that is known to be a stone, however many letters it has."""
    word, at = looks_fall(dish, stone, None)
    return seat_call(word, LETTERS[at])


def stands_so(dish, disc, told):
    word, call = told
    return is_call(call) and standing(disc, dish.stone(call)) == word
