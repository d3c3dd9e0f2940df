"""Each refusal of the program, as an error of its own."""


class StoneError(ValueError):
    """What is handed in can't be taken."""

    def __init__(self, called="StoneError", why="refused"):
        ValueError.__init__(self, f"{called}: {why}")
        self.called = called


class BadPart(StoneError):
    def __init__(self):
        StoneError.__init__(self, "BadPart", "nothing is parted by nought")


class BadDisc(StoneError):
    def __init__(self, at):
        StoneError.__init__(self, "BadDisc", f"no disc stands at {at}")
        self.at = at


class BadTouch(StoneError):
    def __init__(self, one, other):
        StoneError.__init__(self, "BadTouch", f"{one} and {other} do not touch")
        self.one = one
        self.other = other


class Unclosed(StoneError):
    def __init__(self):
        StoneError.__init__(self, "Unclosed", "no stone of the dish has a bend below nought")


class BadWord(StoneError):
    def __init__(self, at):
        StoneError.__init__(self, "BadWord", f"no word, by its sign at {at}")
        self.at = at


class BadCall(StoneError):
    def __init__(self):
        StoneError.__init__(self, "BadCall", "no stone is called so")


class OnRim(StoneError):
    def __init__(self, call):
        StoneError.__init__(self, "OnRim", f"the place lies on the rim of {call}")
        self.call = call


class BadTurn(StoneError):
    def __init__(self):
        StoneError.__init__(self, "BadTurn", "the squares of a turning's two parts make one")


class BadTimes(StoneError):
    def __init__(self):
        StoneError.__init__(self, "BadTimes", "a dish is grown by a part above nought")


class BadNumber(StoneError):
    # The number stays out of the words: Python writes none of more than 4300 figures.
    def __init__(self, number):
        StoneError.__init__(self, "BadNumber", "this number is not taken here")
        self.number = number


class NotWhole(StoneError):
    def __init__(self, letter):
        StoneError.__init__(self, "NotWhole", f"the bend on the seat {letter} is not whole")
        self.letter = letter


class TooMany(StoneError):
    def __init__(self, most):
        StoneError.__init__(self, "TooMany", f"more than {most} would be due")
        self.most = most


class BadName(StoneError):
    def __init__(self, name):
        StoneError.__init__(self, "BadName", f"{name!r} is no name")
        self.name = name


class Taken(StoneError):
    def __init__(self, name):
        StoneError.__init__(self, "Taken", f"{name!r} is taken")
        self.name = name


class Full(StoneError):
    def __init__(self, most):
        StoneError.__init__(self, "Full", f"there are {most} already")
        self.most = most


class InUse(StoneError):
    def __init__(self, name):
        StoneError.__init__(self, "InUse", f"the watch {name!r} looks at it")
        self.name = name


class BadDeed(StoneError):
    def __init__(self, word):
        StoneError.__init__(self, "BadDeed", f"no deed is told so: {word!r}")
        self.word = word


class BadText(StoneError):
    def __init__(self, at):
        StoneError.__init__(self, "BadText", f"not so written, at {at}")
        self.at = at


class Missing(LookupError):
    """What is asked for isn't there."""

    def __init__(self, called="Missing", why="refused"):
        LookupError.__init__(self, f"{called}: {why}")
        self.called = called


class NoDish(Missing):
    def __init__(self, name):
        Missing.__init__(self, "NoDish", f"no dish is called {name!r}")
        self.name = name


class NoWatch(Missing):
    def __init__(self, name):
        Missing.__init__(self, "NoWatch", f"no watch is called {name!r}")
        self.name = name


class NothingLeft(Missing):
    def __init__(self):
        Missing.__init__(self, "NothingLeft", "no step is left")
