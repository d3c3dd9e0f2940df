"""Ways: the fewest touchings from one stone to another."""

from gapstone.words import LETTERS, must_be_call, seat_call, seat_of


def beginnings(word):
    return [word[:many] for many in range(len(word) + 1)]


def way(dish, one, other):
    must_be_call(one)
    must_be_call(other)
    # Which stones touch is told by their calls alone, in any dish: those that lie on the seats of one four. Two fours a
    # swap apart have three stones in common, and these part the stones on both sides. So no shorter way leaves the
    # fours from the one to the other, and a stone new to a four is one touching behind the nearest of the three.
    back, onward = beginnings(seat_of(one)[0]), beginnings(seat_of(other)[0])
    ways = {one: [one]}
    for word in back[::-1] + onward:
        four = [seat_call(word, letter) for letter in LETTERS]
        for call in four:
            if call not in ways:
                nearest = min([ways[near] for near in four if near in ways], key=len)
                ways[call] = [*nearest, call]
    return ways[other]


def far(dish, one, other):
    return len(way(dish, one, other)) - 1
