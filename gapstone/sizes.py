"""Sizes: the stones of a dish with a bend no greater than a bound."""

from gapstone.errors import TooMany
from gapstone.parts import part
from gapstone.swaps import over_one_under, parts_behind, swapped
from gapstone.words import LETTERS, call_key, reduced, seat_call

MOST_LISTED = 300


def no_greater(row, bound, most):
    """The stones with a bend no greater than a bound, by the bends at the root's seats; TooMany.

    Each is told by its bend, a word from the root on, and the letter of the seat on which it lies behind that.
    """
    told = [(bend, "", letter) for bend, letter in zip(row, LETTERS) if bend <= bound]
    ends = [("", row)]
    while ends != [] and len(told) <= most:
        word, bends = ends.pop()
        for at, letter in enumerate(LETTERS):
            brought = swapped(bends, at)
            # From the root on each swap brings the greatest bend of the four, so behind a greater one all are greater.
            if not word.endswith(letter) and brought[at] <= bound:
                told.append((brought[at], word + letter, letter))
                ends.append((word + letter, brought))
    if len(told) > most:
        raise TooMany(most)
    return told


def up_to(dish, bound, *, most=MOST_LISTED):
    to_root, rising = dish.root()
    row, under = over_one_under([*parts_behind(dish.bends(), to_root), bound])
    told = no_greater(row[:-1], row[-1], most)
    rows = [(bend, call_key(seat_call(reduced(to_root + word), letter))) for bend, word, letter in told]
    return [(part(bend, under), call) for bend, (length, call) in sorted(rows)]


def all_up_to(dish, bound, rows):
    try:
        told = up_to(dish, bound, most=len(rows))
    except TooMany:
        return False
    return sorted(rows) == sorted(told)


def sized(dish, bend, *, most=MOST_LISTED):
    return [call for one, call in up_to(dish, bend, most=most) if one == bend]
