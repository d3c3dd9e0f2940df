"""Ways: the fewest touchings from one stone to another."""

from gapstone.words import LETTERS, must_be_call, seat_call, seat_of


def words_between(one, other):
    """The words from one to another, each a swap away from the next one."""
    alike = 0
    while alike < min(len(one), len(other)) and one[alike] == other[alike]:
        alike += 1
    back = [one[:many] for many in range(len(one), alike, -1)]
    return back + [other[:many] for many in range(alike, len(other) + 1)]


def way(dish, one, other):
    must_be_call(one)
    must_be_call(other)
    # Which stones touch is told by their calls alone, in any dish: those that lie on the seats of one four. Two fours a
    # swap apart have three stones in common, and these part the stones on both sides. So no shorter way leaves the
    # fours in between, and a stone new to a four is one touching behind the nearest of the three.
    ways = {one: [one]}
    for word in words_between(seat_of(one)[0], seat_of(other)[0]):
        four = [seat_call(word, letter) for letter in LETTERS]
        for call in four:
            if call not in ways:
                nearest = min([ways[near] for near in four if near in ways], key=len)
                ways[call] = [*nearest, call]
    return ways[other]


def far(dish, one, other):
    return len(way(dish, one, other)) - 1
