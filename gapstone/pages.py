"""Pages: a bench written as rows of text, and read again."""

from gapstone.bench import Bench, behind
from gapstone.discs import read_disc
from gapstone.errors import BadText, Missing, StoneError
from gapstone.parts import number_text, part_text, read_number, read_part
from gapstone.words import call_key


def place_text(place):
    return ",".join([part_text(one) for one in place])


def read_place(text):
    """The place that is written so; BadText (0)."""
    told = tuple([read_part(piece) for piece in text.split(",")])
    if len(told) != 2:
        raise BadText(0)
    return told


def page(bench):
    rows = []
    for name in bench.names():
        rows.append(f"dish {name} {str(bench.told(name))}\n")
        for call, number in bench.marks(name):
            rows.append(f"mark {call} {number_text(number)}\n")
    for name in bench.watches():
        dish, place = bench.watched(name)
        rows.append(f"watch {name} {dish} {place_text(place)}\n")
    return "".join(rows)


def read_row(row, dish):
    """The deed that a row tells; of a mark it is a deed to the named dish. BadText (0)."""
    word, *things = row.split(" ")
    if word == "dish" and len(things) == 5:
        return ("dish", things[0], [read_disc(one) for one in things[1:]])
    if word == "watch" and len(things) == 3:
        return ("watch", things[0], things[1], read_place(things[2]))
    if word != "mark" or len(things) != 2 or things[1] == "0":
        raise BadText(0)
    return ("mark", dish, things[0], read_number(things[1]))


def row_key(deed):
    """By this the rows of a page rise: dishes by name, behind each one its marks by call, then watches by name."""
    if deed[0] == "mark":
        return (0, deed[1], call_key(deed[2]))
    return (0 if deed[0] == "dish" else 1, deed[1], call_key(""))


def read_page(text):
    *rows, rest = text.split("\n")
    bench = Bench()
    dish = None
    last = ()
    for at, row in enumerate(rows):
        try:
            deed = read_row(row, dish)
            bench.stand = behind(bench.stand, deed)
        except (StoneError, Missing):
            raise BadText(at) from None
        if row_key(deed) <= last:
            raise BadText(at)
        last = row_key(deed)
        if deed[0] == "dish":
            dish = deed[1]
    if rest != "":
        raise BadText(len(rows))
    return bench
