"""Rests: which rests the bends of a dish have when they are parted by a number, and so which bends never come."""

from gapstone.errors import BadNumber, NotWhole
from gapstone.swaps import swapped
from gapstone.words import LETTERS

LEAST_BY = 2
MOST_BY = 12


def seats_rests(dish, by):
    """The rests of the seats' bends; NotWhole, BadNumber."""
    bends = dish.bends()
    for letter, bend in zip(LETTERS, bends):
        if bend[1] != 1:
            raise NotWhole(letter)
    if by < LEAST_BY or by > MOST_BY:
        raise BadNumber(by)
    return tuple([bend[0] % by for bend in bends])


def led_to(four, by):
    """The quadruples of rests to which a swap leads, seat by seat."""
    return [tuple([one % by for one in swapped(four, at)]) for at in range(len(four))]


def lot(dish, by):
    first = seats_rests(dish, by)
    known = {first: True}
    ends = [first]
    while ends != []:
        four = ends.pop()
        for other in led_to(four, by):
            if other not in known:
                known[other] = True
                ends.append(other)
    return sorted(known)


def rests(dish, by):
    return sorted({rest for four in lot(dish, by) for rest in four})


def are_rests(four, by):
    return all([rest in range(by) for rest in four])


def lot_holds(dish, by, rows):
    first = seats_rests(dish, by)
    known = {four: True for four in rows}
    if first not in known:
        return False
    for four in rows:
        if not are_rests(four, by) or not all([other in known for other in led_to(four, by)]):
            return False
    return True
