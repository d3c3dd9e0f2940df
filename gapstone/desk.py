"""The desk: a bench that is spoken to in rows of words and answers in text."""

from gapstone.bench import Bench
from gapstone.errors import BadText, Missing, StoneError
from gapstone.pages import read_place
from gapstone.parts import number_text, part_text, read_number

DONE = "done"
WHAT = "what"


def read_word(text):
    return "" if text == "-" else text


def listed(texts):
    return " ".join(texts) if texts != [] else "none"


def say_lead(bench, name, word):
    bench.lead(name, read_word(word))
    return DONE


def say_mirror(bench, name):
    bench.mirror(name)
    return DONE


def say_mark(bench, name, call, number):
    bench.mark(name, call, read_number(number))
    return DONE


def say_watch(bench, name, dish, place):
    bench.watch(name, dish, read_place(place))
    return DONE


def say_let(bench, name):
    bench.let(name)
    return DONE


def say_drop(bench, name):
    bench.drop(name)
    return DONE


def say_undo(bench):
    bench.undo()
    return DONE


def say_redo(bench):
    bench.redo()
    return DONE


def say_find(bench, name):
    return bench.found(name)


def say_load(bench, name, word):
    return number_text(bench.load(name, read_word(word)))


def say_names(bench):
    return listed(bench.names())


def say_watches(bench):
    return listed(bench.watches())


def say_root(bench, name):
    word, bends = bench.told(name).root()
    return " ".join([part_text(one) for one in bends])


ANSWERS = {
    "lead": say_lead, "mirror": say_mirror, "mark": say_mark, "watch": say_watch, "let": say_let, "drop": say_drop,
    "undo": say_undo, "redo": say_redo, "find": say_find, "load": say_load, "names": say_names, "watches": say_watches,
    "root": say_root,
}
ROW_LENGTHS = {
    "lead": 3, "mirror": 2, "mark": 4, "watch": 4, "let": 2, "drop": 2, "undo": 1, "redo": 1, "find": 2, "load": 3,
    "names": 1, "watches": 1, "root": 2,
}


class Desk:
    def __init__(self, *, bench=None):
        # An empty bench has the length 0, so it is asked for None alone.
        self.bench = Bench() if bench is None else bench

    def say(self, row):
        words = row.split(" ")
        if "" in words or ROW_LENGTHS.get(words[0]) != len(words):
            return WHAT
        first, *others = words
        answer = ANSWERS[first]
        try:
            return answer(self.bench, *others)
        except BadText:
            return WHAT
        except (StoneError, Missing) as refusal:
            return f"no {refusal.called}"
