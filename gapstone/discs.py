"""Discs: tuples of four parts (back, bend, x, y) with x x + y y - bend back = 1 and a bend that isn't nought."""

from gapstone.errors import BadPart, BadText
from gapstone.parts import below, is_part, less, over, part_text, plus, read_part, times

NOUGHT = (0, 1)
ONE = (1, 1)
MINUS_ONE = (-1, 1)
TWO = (2, 1)


def inner(one, other):
    """The sum of two products: of the first parts of two pairs, and of the second ones."""
    return plus(times(one[0], other[0]), times(one[1], other[1]))


def is_disc(thing):
    if len(thing) != 4 or not all([is_part(one) for one in thing]):
        return False
    back, bend, x, y = thing
    return bend != NOUGHT and less(inner((x, y), (x, y)), times(bend, back)) == ONE


def disc(middle, bend):
    if bend == NOUGHT:
        raise BadPart()
    x, y = times(middle[0], bend), times(middle[1], bend)
    back = over(less(inner((x, y), (x, y)), ONE), bend)
    return (back, bend, x, y)


def middle(disc):
    back, bend, x, y = disc
    return (over(x, bend), over(y, bend))


def number(disc, place):
    back, bend, x, y = disc
    square = times(bend, inner(place, place))
    return plus(less(square, times(TWO, inner((x, y), place))), back)


def look(one, other):
    crossed = inner((one[1], one[0]), (other[0], other[1]))
    return less(inner(one[2:], other[2:]), over(crossed, TWO))


def touch(one, other):
    return look(one, other) == MINUS_ONE and below(NOUGHT, plus(one[1], other[1]))


def disc_text(disc):
    return ",".join([part_text(one) for one in disc])


def read_disc(text):
    told = tuple([read_part(piece) for piece in text.split(",")])
    if not is_disc(told):
        raise BadText(0)
    return told
