"""Words: swaps of the seats a to d, one behind the other, and the calls of stones that come of them."""

from gapstone.errors import BadCall, BadWord

LETTERS = "abcd"
GREAT = "ABCD"
MOST_WORD = 40


def word_fault(text):
    """The place of the first sign by which a text is no word, or None where it is one."""
    for at, sign in enumerate(text):
        if sign not in LETTERS or (at > 0 and sign == text[at - 1]):
            return at
    if len(text) > MOST_WORD:
        return MOST_WORD
    return None


def must_be_word(text):
    at = word_fault(text)
    if at is not None:
        raise BadWord(at)


def must_be_call(text):
    if not is_call(text):
        raise BadCall()


def is_word(text):
    return word_fault(text) is None


def is_great(text):
    """Whether a text is the call of a stone that a dish is begun by."""
    return len(text) == 1 and text in GREAT


def is_call(text):
    return is_great(text) or (text != "" and is_word(text))


def reduced(text):
    kept = []
    for at, sign in enumerate(text):
        if sign not in LETTERS:
            raise BadWord(at)
        if kept != [] and kept[-1] == sign:
            kept.pop()
        else:
            kept.append(sign)
    return "".join(kept)


def joined(one, other):
    must_be_word(one)
    must_be_word(other)
    return reduced(one + other)


def undone(word):
    must_be_word(word)
    return word[::-1]


def seat_call(word, letter):
    """The call of the stone on a seat behind a word of any length: a told word may have more than 40 letters."""
    last = word.rfind(letter)
    if last < 0:
        return GREAT[LETTERS.find(letter)]
    return word[:last + 1]


def call_at(word, letter):
    must_be_word(word)
    if len(letter) != 1 or letter not in LETTERS:
        raise BadCall()
    return seat_call(word, letter)


def seat_of(call):
    """A word behind whose swaps the stone of a call lies on a seat, and the letter of that seat."""
    if is_great(call):
        return ("", LETTERS[GREAT.find(call)])
    return (call, call[-1])


def turned(call, word):
    must_be_call(call)
    must_be_word(word)
    swaps, letter = seat_of(call)
    return seat_call(reduced(word[::-1] + swaps), letter)


def call_key(call):
    return (len(call), call)
