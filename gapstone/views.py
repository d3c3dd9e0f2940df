"""Views: a dish moved, turned, mirrored, grown or seen from a place, and whether two dishes are one or alike."""

from gapstone.discs import NOUGHT, ONE, inner, number
from gapstone.dish import Dish
from gapstone.errors import BadTimes, BadTurn, OnRim
from gapstone.parts import below, less, over, plus, times
from gapstone.places import MOST_SWAPS, lies_in
from gapstone.stands import stands
from gapstone.swaps import discs_behind, greatest_at, over_one_under, swapped
from gapstone.words import LETTERS


def other_way(by):
    """The pair of parts with both signs turned."""
    return (less(NOUGHT, by[0]), less(NOUGHT, by[1]))


def moved_disc(disc, by):
    back, bend, x, y = disc
    # The back is the number of (0, 0), so it becomes that of the place which comes there.
    return (number(disc, other_way(by)), bend, plus(x, times(bend, by[0])), plus(y, times(bend, by[1])))


def turned_disc(disc, by):
    back, bend, x, y = disc
    return (back, bend, less(times(by[0], x), times(by[1], y)), plus(times(by[1], x), times(by[0], y)))


def mirrored_disc(disc):
    back, bend, x, y = disc
    return (back, bend, x, less(NOUGHT, y))


def grown_disc(disc, times_of):
    back, bend, x, y = disc
    return (times(back, times_of), over(bend, times_of), x, y)


def seen_disc(disc, place):
    back, bend, x, y = moved_disc(disc, other_way(place))
    return (bend, back, x, y)


def moved(dish, by):
    return Dish([moved_disc(one, by) for one in dish.seats()])


def turned_by(dish, by):
    if inner(by, by) != ONE:
        raise BadTurn()
    return Dish([turned_disc(one, by) for one in dish.seats()])


def mirrored(dish):
    return Dish([mirrored_disc(one) for one in dish.seats()])


def grown(dish, times_of):
    if not below(NOUGHT, times_of):
        raise BadTimes()
    return Dish([grown_disc(one, times_of) for one in dish.seats()])


def seen(dish, place, *, most=MOST_SWAPS):
    call, on_rim = lies_in(dish, place, most)
    if on_rim:
        raise OnRim(call)
    return Dish([seen_disc(one, place) for one in dish.seats()])


def same(one, other, *, most=MOST_SWAPS):
    calls = []
    for disc in other.seats():
        word, call = stands(one, disc, most=most)
        if word != "stone":
            return None
        calls.append(call)
    return tuple(calls)


def alike(one, other):
    return one.root()[1] == other.root()[1]


def root_stones(dish):
    """The stones of all fours at the root, rising: dishes have the same stones just where these are the same.

    From one such four on all swaps bring greater bends, but the swap of the greatest may bring it once more; so there
    are one or two of them.
    """
    discs = discs_behind(dish.seats(), dish.root()[0])
    bends, under = over_one_under([one[1] for one in discs])
    at = greatest_at(bends)
    if swapped(bends, at)[at] == bends[at]:
        discs.append(discs_behind(discs, LETTERS[at])[at])
    return sorted(discs)


def same_stones(one, other):
    """Whether two dishes are one, however many swaps apart: same may be refused, this is not."""
    return one == other or root_stones(one) == root_stones(other)
