"""Parts: fractions as pairs (over, under) in lowest terms, with an under of 1 or more."""

from gapstone.errors import BadPart, BadText

FIGURES = "0123456789"
MOST_FIGURES = 40
PIECE_FIGURES = 60
PIECE = 10 ** 60


def common(one, other):
    """The greatest number that goes into both; of nought and another one the other, without its sign."""
    one, other = abs(one), abs(other)
    while other != 0:
        one, other = other, one % other
    return one


def part(over, under=1):
    if under == 0:
        raise BadPart()
    by = common(over, under)
    if under < 0:
        by = -by
    return (over // by, under // by)


def is_part(pair):
    """Whether a pair of numbers is in lowest terms, with an under of 1 or more."""
    top, bottom = pair
    return bottom >= 1 and common(top, bottom) == 1


def plus(one, other):
    return part(one[0] * other[1] + other[0] * one[1], one[1] * other[1])


def less(one, other):
    return part(one[0] * other[1] - other[0] * one[1], one[1] * other[1])


def times(one, other):
    return part(one[0] * other[0], one[1] * other[1])


def over(one, other):
    return part(one[0] * other[1], one[1] * other[0])


def below(one, other):
    return one[0] * other[1] < other[0] * one[1]


def total(row, *, start=(0, 1)):
    # Lowest terms are sought once, at the end: behind each of many long parts it would take far longer.
    top, bottom = start
    for one in row:
        top, bottom = top * one[1] + one[0] * bottom, bottom * one[1]
    return part(top, bottom)


def number_text(number):
    """The figures of a whole number, with a minus ahead where it is below nought."""
    # Python's own str refuses more than 4300 figures, and a total of long parts may have more.
    rest = abs(number)
    pieces = []
    while rest >= PIECE:
        rest, piece = divmod(rest, PIECE)
        pieces.append(str(piece).zfill(PIECE_FIGURES))
    pieces.append(str(rest))
    if number < 0:
        pieces.append("-")
    return "".join(reversed(pieces))


def is_figures(text):
    """Whether a text is at most 40 figures without a needless nought."""
    if text == "" or len(text) > MOST_FIGURES:
        return False
    if text[0] == "0" and text != "0":
        return False
    return all([sign in FIGURES for sign in text])


def read_number(text):
    """The whole number that is written so; BadText (0)."""
    if text == "-0" or not is_figures(text.removeprefix("-")):
        raise BadText(0)
    return int(text)


def part_text(one):
    if one[1] == 1:
        return number_text(one[0])
    return number_text(one[0]) + "/" + number_text(one[1])


def read_part(text):
    if "/" not in text:
        return (read_number(text), 1)
    top_text, slash, bottom_text = text.partition("/")
    told = (read_number(top_text), read_number(bottom_text))
    if told[1] == 1 or not is_part(told):
        raise BadText(0)
    return told
