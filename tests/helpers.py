"""What several tests need: discs, dishes and swaps by plain formulas over Python's own fractions."""

import unittest
from fractions import Fraction
from itertools import product
from math import isqrt

LETTERS = "abcd"

# Bends of roots, the rim first. From these the seats of a dish are made.
ROOTS = [(-1, 2, 2, 3), (-2, 3, 6, 7), (-3, 5, 8, 8), (-6, 11, 14, 15), (-12, 17, 41, 44)]


class Refusing(unittest.TestCase):
    def refused(self, kind, values, function, *handed, **named):
        """The refusal is of that kind, and bears these values alone and its name."""
        with self.assertRaises(kind, msg=handed) as caught:
            function(*handed, **named)
        self.assertEqual(vars(caught.exception), {"called": kind.__name__, **values}, handed)


def pair(fraction):
    return (fraction.numerator, fraction.denominator)


def fractions(parts):
    return [Fraction(*one) for one in parts]


def at(x, y, bend):
    """The disc about (x, y) with that bend, of whole numbers or fractions, by its plain formula."""
    x, y, bend = Fraction(x), Fraction(y), Fraction(bend)
    back = bend * (x * x + y * y) - 1 / bend
    return tuple([pair(one) for one in (back, bend, x * bend, y * bend)])


def turned_out(one):
    """The same rim with the signs of all four parts turned: what lay within lies without."""
    return tuple([(-top, bottom) for top, bottom in one])


def root_of(square):
    """The root of a fraction that is a square."""
    told = Fraction(isqrt(square.numerator), isqrt(square.denominator))
    assert told * told == square
    return told


def round_about(bends):
    """(x, y, bend) of four that touch two by two, the first of them the rim about (0, 0), the second to the right."""
    rim, first, *others = [Fraction(bend) for bend in bends]
    wide, near = -1 / rim, 1 / first
    places = [(Fraction(0), Fraction(0), rim), (wide - near, Fraction(0), first)]
    for side, bend in zip((1, -1), others):
        far, off = wide - 1 / bend, near + 1 / bend
        x = (far * far - off * off + (wide - near) ** 2) / (2 * (wide - near))
        places.append((x, root_of(far * far - x * x) * side, bend))
    return places


def seats_of(bends, move=(0, 0), turn=(1, 0), grow=1):
    """The discs of a dish with these bends, grown, turned and moved."""
    c, s = turn
    told = []
    for x, y, bend in round_about(bends):
        x, y = x * grow, y * grow
        told.append(at(c * x - s * y + move[0], s * x + c * y + move[1], bend / grow))
    return told


def swap(discs, word):
    """The discs on the seats behind a word, by the plain formula, part by part."""
    discs = [fractions(one) for one in discs]
    for letter in word:
        seat = LETTERS.index(letter)
        others = [discs[place] for place in range(4) if place != seat]
        discs[seat] = [2 * sum(column) - own for *column, own in zip(*others, discs[seat])]
    return [tuple([pair(part) for part in one]) for one in discs]


def seen_from(discs, x, y):
    """Discs seen from a place that lies on none of their rims, by their middles and radii."""
    told = []
    for back, bend, own_x, own_y in [fractions(one) for one in discs]:
        off_x, off_y, radius = own_x / bend - x, own_y / bend - y, 1 / bend
        power = off_x * off_x + off_y * off_y - radius * radius
        told.append(at(off_x / power, off_y / power, bend * power))
    return told


def call_in(call, word):
    """The call, in the dish led by a word of any length, of the stone that has a call."""
    swaps, seat = ("", call.lower()) if call in "ABCD" else (call, call[-1])
    kept = word[::-1] + swaps
    while any([pair_of in kept for pair_of in ("aa", "bb", "cc", "dd")]):
        for pair_of in ("aa", "bb", "cc", "dd"):
            kept = kept.replace(pair_of, "")
    return kept[:kept.rindex(seat) + 1] if seat in kept else seat.upper()


def words_of(many):
    """All words of so many letters."""
    texts = ["".join(letters) for letters in product(LETTERS, repeat=many)]
    return [text for text in texts if all([one != other for one, other in zip(text, text[1:])])]


def words_up_to(many):
    return [word for length in range(many + 1) for word in words_of(length)]


def calls_up_to(many):
    return [*"ABCD", *words_up_to(many)[1:]]


def common_place(one, other):
    """The place in which two discs that touch have their rims in common."""
    one, other = fractions(one), fractions(other)
    bend = one[1] + other[1]
    return (pair((one[2] + other[2]) / bend), pair((one[3] + other[3]) / bend))


def rim_place(disc, c=Fraction(3, 5), s=Fraction(4, 5)):
    """A place on the rim of a disc."""
    back, bend, x, y = fractions(disc)
    return (pair((x + c) / bend), pair((y + s) / bend))


def shown(bench):
    """All that can be asked of a bench without finding anything."""
    return {
        "dishes": {name: bench.told(name).seats() for name in bench.names()},
        "marks": {name: bench.marks(name) for name in bench.names()},
        "watches": {name: bench.watched(name) for name in bench.watches()},
        "kept": (bench.held(), bench.reckoned()),
        "steps": bench.steps(),
    }


def standing(bench):
    """What of it is told by a page."""
    told = shown(bench)
    return told["dishes"], told["marks"], told["watches"]


# Seats of many kinds: at the root, far from it, without the rim among them, grown, turned and moved.
MANY_SEATS = [
    *[seats_of(bends) for bends in ROOTS],
    swap(seats_of(ROOTS[0]), "a"),
    swap(seats_of(ROOTS[1]), "abcdab"),
    swap(seats_of(ROOTS[2]), "dcad"),
    seats_of(ROOTS[0], move=(Fraction(7, 3), Fraction(-1, 5)), turn=(Fraction(3, 5), Fraction(4, 5))),
    seats_of(ROOTS[3], move=(-4, 9), grow=Fraction(22, 7)),
    swap(seats_of(ROOTS[4], turn=(Fraction(-5, 13), Fraction(12, 13)), grow=Fraction(1, 9)), "ba")[::-1],
    seats_of(ROOTS[1], move=(Fraction(1, 10 ** 12), 10 ** 12), grow=10 ** 9),
]

# A chain of stones of the first dish, each touching the next one, the rim and the stone B.
CHAIN = "cd" * 250


def deep_stone(many):
    """The stone of the first dish whose call is so many letters of the chain."""
    return swap(seats_of(ROOTS[0]), CHAIN[:many])[LETTERS.index(CHAIN[many - 1])]


# Dishes seen from within a stone that is not their rim.
SEEN_SEATS = [
    seen_from(seats_of(ROOTS[0]), Fraction(1, 2), 0),
    seen_from(seats_of(ROOTS[0]), Fraction(1, 7), Fraction(-2, 3)),
    seen_from(swap(seats_of(ROOTS[1]), "ab"), Fraction(1, 5), Fraction(1, 100)),
    seen_from(swap(seats_of(ROOTS[2], move=(Fraction(1, 3), 2)), "cbd"), Fraction(9, 20), 2),
]

# Two straight lines and two stones between them: all but the bends is as in a dish.
STRIP = [((2, 1), (0, 1), (0, 1), (-1, 1)), ((2, 1), (0, 1), (0, 1), (1, 1)), at(0, 0, 1), at(2, 0, 1)]


def strip_between(bend, first):
    """Two straight lines and two stones of that bend between them, which touch; the first's middle is at x = first."""
    high = 1 / Fraction(bend)
    lines = [tuple([pair(one) for one in (2 * high, Fraction(0), Fraction(0), Fraction(side))]) for side in (-1, 1)]
    return [*lines, at(first, 0, bend), at(first + 2 * high, 0, bend)]
