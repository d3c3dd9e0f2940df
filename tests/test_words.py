"""Points 7 and 8 and the interface of gapstone/words.py."""

import unittest

from gapstone import words
from gapstone.errors import BadCall, BadWord
from gapstone.words import call_at, call_key, is_call, is_word, joined, reduced, turned, undone
from tests.helpers import Refusing, calls_up_to, words_up_to

FORTY = "ab" * 20
MORE = FORTY + "a"

# Texts that are no words, each with the place at which it is refused as one.
NO_WORDS = [
    ("aa", 1), ("abb", 2), ("aab", 1), ("abcdd", 4), ("cddc", 2), ("abba", 2), ("aaa", 1),
    ("e", 0), ("A", 0), ("abe", 2), ("aB", 1), ("Ba", 0), ("AB", 0), (" ", 0), ("a b", 1), ("ab ", 2), (" ab", 0),
    ("ab\n", 2), ("\n", 0), ("-", 0), ("ab~", 2), ("1", 0), ("aba?cc", 3), ("acc?", 2), ("?aa", 0), ("AA", 0), ("a??", 1),
    (MORE, 40), (MORE + "b", 40), ("abcd" * 2000, 40), (FORTY + "b", 40), (FORTY + "?", 40), (MORE + "a", 41),
    (MORE + "?", 41), (FORTY * 3 + "b", 120), (FORTY * 3 + "A", 120), (FORTY[:39] + "a", 39), (FORTY[:39] + "?", 39),
    ("a" * 8000, 1), ("?" + MORE, 0),
]


def plainly_reduced(text):
    """A text without its alike neighbours, taken out pair by pair in no clever order."""
    while any([letter * 2 in text for letter in "dcba"]):
        for letter in "dcba":
            text = text.replace(letter * 2, "", 1)
    return text


class Values(unittest.TestCase):
    def test_they_are_as_told(self):
        self.assertEqual((words.LETTERS, words.GREAT, words.MOST_WORD), ("abcd", "ABCD", 40))


class Asked(unittest.TestCase):
    def test_words(self):
        for text in ["", "a", "b", "c", "d", "ab", "ba", "aba", "abcd", "dcba", "abab", "dcdcd", FORTY, FORTY[:39]]:
            self.assertIs(is_word(text), True, text)
            self.assertIs(is_word(text=text), True, text)

    def test_no_words(self):
        for text, place in NO_WORDS:
            self.assertIs(is_word(text), False, text)

    def test_calls(self):
        for text in ["A", "B", "C", "D", "a", "b", "c", "d", "ab", "aba", "dcba", FORTY, "dc" * 20]:
            self.assertIs(is_call(text), True, text)
            self.assertIs(is_call(text=text), True, text)

    def test_no_calls(self):
        for text in ["", "E", "AB", "AA", "Aa", "aA", "ABCD", "BC", "A ", " A", "A\n", "1", "~"]:
            self.assertIs(is_call(text), False, text)
        for text, place in NO_WORDS:
            self.assertIs(is_call(text), text == "A", text)


class Reduced(Refusing):
    def test_plain_ones(self):
        for text, wanted in [("", ""), ("a", "a"), ("aa", ""), ("aaa", "a"), ("abab", "abab"), ("abba", ""), ("abbc", "ac"),
                             ("abccba", ""), ("abccbad", "d"), ("dabbacd", "dcd"), ("abcddcbaabcddcba", ""),
                             ("aabbccdd", ""), ("abcacba", "abcacba"), ("bbaaab", "ab")]:
            self.assertEqual(reduced(text), wanted, text)
            self.assertEqual(reduced(text=text), wanted, text)

    def test_words_stay(self):
        for word in words_up_to(4):
            self.assertEqual(reduced(word), word)

    def test_there_and_back_again(self):
        for word in words_up_to(4):
            self.assertEqual(reduced(word + word[::-1]), "")
            self.assertEqual(reduced("d" + word + word[::-1] + "d"), "")
            self.assertEqual(reduced("ca" + word + word[::-1] + "bc"), "cabc")

    def test_beside_a_plain_way(self):
        text = "abcd"
        for turn in range(200):
            text = text[turn % 7:] + text[:5] + "dcab"[turn % 4] + text[::-1][:turn % 9]
            text = text[-40:]
            self.assertEqual(reduced(text), plainly_reduced(text), text)

    def test_far_more_than_forty_letters(self):
        self.assertEqual(reduced(FORTY * 10), FORTY * 10)
        self.assertEqual(reduced("abcd" * 2000), "abcd" * 2000)
        self.assertEqual(reduced("abcd" * 1000 + "dcba" * 1000), "")
        self.assertEqual(reduced("abcd" * 1000 + "dcba" * 990), "abcd" * 10)
        self.assertEqual(reduced("d" * 8000), "")
        self.assertEqual(reduced("d" * 7999), "d")

    def test_the_first_sign_that_is_no_letter(self):
        for text, place in [("e", 0), ("A", 0), ("aae", 2), ("aabbE", 4), ("ab cd", 2), (" ", 0), ("abba\n", 4), ("aa?!", 2),
                            ("abcd" * 1000 + "-", 4000), ("a" * 50 + "A" + "b", 50), ("aaB?", 2)]:
            self.refused(BadWord, {"at": place}, reduced, text)


class Joined(Refusing):
    def test_with_the_empty_word(self):
        self.assertEqual(joined("", ""), "")
        for word in [*words_up_to(3), FORTY]:
            self.assertEqual(joined(word, ""), word)
            self.assertEqual(joined("", word), word)

    def test_plain_ones(self):
        self.assertEqual(joined("ab", "cd"), "abcd")
        self.assertEqual(joined("ab", "bc"), "ac")
        self.assertEqual(joined("abc", "cbd"), "ad")
        self.assertEqual(joined(one="ab", other="ba"), "")
        self.assertEqual(joined(other="dc", one="ab"), "abdc")

    def test_all_short_ones(self):
        for one in words_up_to(3):
            for other in words_up_to(3):
                self.assertEqual(joined(one, other), plainly_reduced(one + other))

    def test_a_word_and_it_undone(self):
        for word in [*words_up_to(4), FORTY]:
            self.assertEqual(joined(word, undone(word)), "")
            self.assertEqual(joined(undone(word), word), "")

    def test_answers_of_more_than_forty_letters(self):
        self.assertEqual(joined(FORTY, FORTY), FORTY * 2)
        self.assertEqual(joined(FORTY, "c"), FORTY + "c")
        self.assertEqual(joined("cd" * 20, "dcba" * 10), "cd" * 19 + "ba" + "dcba" * 9)

    def test_refused_at_its_place_the_one_first(self):
        for text, place in NO_WORDS:
            self.refused(BadWord, {"at": place}, joined, text, "ab")
            self.refused(BadWord, {"at": place}, joined, "ab", text)
            self.refused(BadWord, {"at": place}, joined, "", text)
            self.refused(BadWord, {"at": place}, joined, text, "")
            self.refused(BadWord, {"at": place}, joined, text, "abcdabb")
            self.refused(BadWord, {"at": 6}, joined, "abcdabb", text)


class Undone(Refusing):
    def test_plain_ones(self):
        for word, wanted in [("", ""), ("a", "a"), ("ab", "ba"), ("abcd", "dcba"), ("abca", "acba"), (FORTY, "ba" * 20)]:
            self.assertEqual(undone(word), wanted)
            self.assertEqual(undone(word=wanted), word)

    def test_refused_at_its_place(self):
        for text, place in NO_WORDS:
            self.refused(BadWord, {"at": place}, undone, text)


class CallAt(Refusing):
    def test_the_great_letter_where_the_word_has_none_of_it(self):
        for word, letter, call in [("", "a", "A"), ("", "b", "B"), ("", "c", "C"), ("", "d", "D"), ("a", "b", "B"),
                                   ("aba", "d", "D"), ("bcd", "a", "A"), (FORTY, "c", "C")]:
            self.assertEqual(call_at(word, letter), call)

    def test_the_beginning_up_to_the_last_one(self):
        for word, letter, call in [("a", "a", "a"), ("ab", "a", "a"), ("ab", "b", "ab"), ("aba", "b", "ab"),
                                   ("aba", "a", "aba"), ("abcadb", "c", "abc"), ("abcadb", "a", "abca"),
                                   (FORTY, "b", FORTY), (FORTY, "a", FORTY[:39])]:
            self.assertEqual(call_at(word, letter), call)
            self.assertEqual(call_at(letter=letter, word=word), call)

    def test_what_is_no_letter(self):
        for letter in ["", "e", "A", "D", "ab", "abcd", "bc", "aa", " ", "\n", "a "]:
            for word in ["", "ab", FORTY]:
                self.refused(BadCall, {}, call_at, word, letter)

    def test_the_word_is_refused_first(self):
        for text, place in NO_WORDS:
            for letter in ["a", "", "A", "ab"]:
                self.refused(BadWord, {"at": place}, call_at, text, letter)


class Turned(Refusing):
    def test_by_the_empty_word(self):
        for call in calls_up_to(4):
            self.assertEqual(turned(call, ""), call)

    def test_plain_ones(self):
        for call, word, wanted in [("A", "a", "a"), ("a", "a", "A"), ("B", "a", "B"), ("A", "b", "A"), ("A", "ab", "ba"),
                                   ("B", "ab", "b"), ("C", "ab", "C"), ("ab", "ab", "B"), ("a", "ab", "A"), ("abc", "ab", "c"),
                                   ("abca", "ab", "ca"), ("c", "ab", "bac"), ("ac", "ab", "bc"), ("D", "dad", "dad"),
                                   ("d", "dad", "d"), ("da", "dad", "A"), ("dad", "dad", "D")]:
            self.assertEqual(turned(call, word), wanted, (call, word))
            self.assertEqual(turned(word=word, call=call), wanted)

    def test_behind_a_lead_and_back_again(self):
        for call in calls_up_to(3):
            for word in words_up_to(3):
                self.assertEqual(turned(turned(call, word), undone(word)), call)

    def test_two_leads_are_as_one(self):
        for call in calls_up_to(2):
            for one in words_up_to(2):
                for other in words_up_to(2):
                    self.assertEqual(turned(turned(call, one), other), turned(call, joined(one, other)))

    def test_the_stones_of_a_word_are_the_four_behind_it(self):
        for word in words_up_to(4):
            for letter, great in zip("abcd", "ABCD"):
                self.assertEqual(turned(call_at(word, letter), word), great)

    def test_answers_of_more_than_forty_letters(self):
        self.assertEqual(turned("dc" * 20, "ab" * 20), "ba" * 20 + "dc" * 20)
        self.assertEqual(turned("c", FORTY), FORTY[::-1] + "c")

    def test_the_call_is_refused_first(self):
        for call in ["", "E", "AB", "aa", "abb", "aA", "?", MORE, " ", "A "]:
            self.refused(BadCall, {}, turned, call, "ab")
            self.refused(BadCall, {}, turned, call, "aa")
            self.refused(BadCall, {}, turned, call, MORE)

    def test_then_the_word(self):
        for text, place in NO_WORDS:
            self.refused(BadWord, {"at": place}, turned, "A", text)
            self.refused(BadWord, {"at": place}, turned, "abc", text)
            self.refused(BadWord, {"at": place}, turned, FORTY, text)


class CallKey(unittest.TestCase):
    def test_the_pair(self):
        for call in ["A", "a", "abca", FORTY, "abcd" * 30]:
            self.assertEqual(call_key(call), (len(call), call))
            self.assertEqual(call_key(call=call), (len(call), call))

    def test_calls_rise_by_their_length_then_as_texts(self):
        rising = ["A", "B", "C", "D", "a", "b", "c", "d", "ab", "ac", "ba", "dc", "aba", "abc", "dcb", "abab", FORTY]
        self.assertEqual(sorted(sorted(rising), key=call_key), rising)
        self.assertEqual(sorted(rising[::-1], key=call_key), rising)


if __name__ == "__main__":
    unittest.main()
