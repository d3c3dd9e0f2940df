"""Swaps among four numbers, one to a seat.

A swap does the same to each of the four parts of the discs, to their numbers at a place and to their looks at a disc,
so all of these are swapped here, as whole numbers over one under.
"""

from gapstone.errors import TooMany
from gapstone.parts import common, part
from gapstone.words import LETTERS, seat_of


def over_one_under(row):
    """Four parts as whole numbers over one under that they have in common."""
    # Swaps then need no lowest terms on the way, which would take by far the most time.
    under = 1
    for one in row:
        under = under // common(under, one[1]) * one[1]
    return ([one[0] * (under // one[1]) for one in row], under)


def as_parts(row, under):
    return [part(one, under) for one in row]


def swapped(row, at):
    """The four with twice the sum of the three others less it in the place of one."""
    told = list(row)
    told[at] = 2 * sum(row) - 3 * row[at]
    return told


def parts_behind(row, word):
    """Four parts, one to a seat, behind a word's swaps."""
    told, under = over_one_under(row)
    for letter in word:
        told = swapped(told, LETTERS.find(letter))
    return as_parts(told, under)


def discs_behind(discs, word):
    """The discs on the four seats behind the swaps of a word of any length."""
    columns = [parts_behind(column, word) for column in zip(*discs)]
    return list(zip(*columns))


def stone_behind(discs, call):
    """The disc of the stone with a call of any length."""
    word, letter = seat_of(call)
    return discs_behind(discs, word)[LETTERS.find(letter)]


def greatest_at(row):
    """The place of the greatest, of several the first."""
    return row.index(max(row))


def least_at(row):
    """The place of the least, of several the first."""
    return row.index(min(row))


def fall(row, bound, most):
    """While all four are above a bound the greatest, of several the first, is swapped.

    Told are the word of these swaps and the rows of four, from the handed one on; TooMany, unless most is None.
    """
    word = ""
    rows = [list(row)]
    while min(rows[-1]) > bound and (most is None or len(word) <= most):
        at = greatest_at(rows[-1])
        word += LETTERS[at]
        rows.append(swapped(rows[-1], at))
    if most is not None and len(word) > most:
        raise TooMany(most)
    return (word, rows)
