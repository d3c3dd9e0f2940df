"""Dishes: four discs that touch two by two, and all the stones that swaps bring to their seats."""

from gapstone.discs import disc_text, is_disc, touch
from gapstone.errors import BadDisc, BadTouch, TooMany, Unclosed
from gapstone.swaps import as_parts, discs_behind, greatest_at, over_one_under, stone_behind, swapped
from gapstone.words import LETTERS, must_be_call, must_be_word

SEATS = 4
MOST_TO_ROOT = 400


def must_be_discs(discs):
    for at, one in enumerate(discs[:SEATS]):
        if not is_disc(one):
            raise BadDisc(at)
    if len(discs) != SEATS:
        raise BadDisc(SEATS)


def must_touch(discs):
    for at in range(SEATS):
        for later in range(at + 1, SEATS):
            if not touch(discs[at], discs[later]):
                raise BadTouch(LETTERS[at], LETTERS[later])


def way_to_root(bends):
    """The word of the swaps to the root, and the bends there, rising; TooMany."""
    row, under = over_one_under(bends)
    word = ""
    at = greatest_at(row)
    while swapped(row, at)[at] < row[at]:
        if len(word) == MOST_TO_ROOT:
            raise TooMany(MOST_TO_ROOT)
        word += LETTERS[at]
        row = swapped(row, at)
        at = greatest_at(row)
    return (word, as_parts(sorted(row), under))


class Dish:
    """Begun by four discs, its seats a, b, c, d; nothing changes it."""

    def __init__(self, discs):
        must_be_discs(discs)
        must_touch(discs)
        word, bends = way_to_root([one[1] for one in discs])
        # No swap away from the root brings a lesser bend, so the rim, if there is one, is the least there.
        if bends[0][0] >= 0:
            raise Unclosed()
        self.discs = tuple(discs)
        self.root_word = word
        self.root_bends = tuple(bends)

    def seats(self):
        return list(self.discs)

    def bends(self):
        return [one[1] for one in self.discs]

    def four(self, word):
        must_be_word(word)
        return discs_behind(self.discs, word)

    def stone(self, call):
        must_be_call(call)
        return stone_behind(self.discs, call)

    def led(self, word):
        return Dish(self.four(word))

    def root(self):
        return (self.root_word, list(self.root_bends))

    def touching(self, one, other):
        return touch(self.stone(one), self.stone(other))

    def __eq__(self, other):
        return isinstance(other, Dish) and self.discs == other.discs

    def __len__(self):
        return len(self.discs)

    def __str__(self):
        return " ".join([disc_text(one) for one in self.discs])

    def __repr__(self):
        return f"Dish({str(self)})"
