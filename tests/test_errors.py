"""Points 1 and 2 and the interface of gapstone/errors.py: each refusal's family, values and name."""

import inspect
import unittest

from gapstone import errors

STONE_ERRORS = {
    "BadPart": (), "BadDisc": ("at",), "BadTouch": ("one", "other"), "Unclosed": (), "BadWord": ("at",),
    "BadCall": (), "OnRim": ("call",), "BadTurn": (), "BadTimes": (), "BadNumber": ("number",),
    "NotWhole": ("letter",), "TooMany": ("most",), "BadName": ("name",), "Taken": ("name",), "Full": ("most",),
    "InUse": ("name",), "BadDeed": ("word",), "BadText": ("at",),
}
MISSING = {"NoDish": ("name",), "NoWatch": ("name",), "NothingLeft": ()}

# What each value may be, by its name: ordinary ones, edges, and what a refusal may be made of by a wrong input.
VALUES = {
    "at": (0, 3, 40), "one": ("a", "c"), "other": ("b", "d"), "call": ("A", "abca"), "letter": ("a", "d"),
    "number": (0, 13, -10 ** 9, 10 ** 40, 10 ** 5000), "most": (0, 6, 400),
    "name": ("", "left", "Not so\n"), "word": (None, "", "dance"),
}


def made(name, turn):
    """An error of that name, made of the values whose turn it is, and these values."""
    kind = getattr(errors, name)
    wanted = {**STONE_ERRORS, **MISSING}[name]
    worths = {value: VALUES[value][turn % len(VALUES[value])] for value in wanted}
    return kind(*worths.values()), worths


class Families(unittest.TestCase):
    def test_the_two_heads(self):
        self.assertEqual(errors.StoneError.__bases__, (ValueError,))
        self.assertEqual(errors.Missing.__bases__, (LookupError,))

    def test_each_stands_straight_under_its_head(self):
        for name in STONE_ERRORS:
            self.assertEqual(getattr(errors, name).__bases__, (errors.StoneError,), name)
        for name in MISSING:
            self.assertEqual(getattr(errors, name).__bases__, (errors.Missing,), name)

    def test_each_is_caught_as_its_family_and_as_no_other_one(self):
        for name in STONE_ERRORS:
            self.assertIsInstance(made(name, 0)[0], ValueError)
            self.assertNotIsInstance(made(name, 0)[0], LookupError)
        for name in MISSING:
            self.assertIsInstance(made(name, 0)[0], LookupError)
            self.assertNotIsInstance(made(name, 0)[0], ValueError)

    def test_there_are_just_these(self):
        found = [name for name, thing in vars(errors).items() if inspect.isclass(thing)]
        self.assertEqual(sorted(found), sorted([*STONE_ERRORS, *MISSING, "StoneError", "Missing"]))


class Borne(unittest.TestCase):
    def test_values_stand_under_their_names(self):
        for name in [*STONE_ERRORS, *MISSING]:
            for turn in range(5):
                error, worths = made(name, turn)
                for value, worth in worths.items():
                    self.assertEqual(getattr(error, value), worth, (name, value))

    def test_called_is_the_name_of_the_class(self):
        for name in [*STONE_ERRORS, *MISSING]:
            self.assertEqual(made(name, 0)[0].called, name)
            self.assertEqual(made(name, 0)[0].called, type(made(name, 0)[0]).__name__)

    def test_the_heads_are_called_so_too(self):
        self.assertEqual(errors.StoneError().called, "StoneError")
        self.assertEqual(errors.Missing().called, "Missing")

    def test_nothing_else_is_borne(self):
        for name in [*STONE_ERRORS, *MISSING]:
            error, worths = made(name, 0)
            self.assertEqual(sorted(vars(error)), sorted([*worths, "called"]), name)

    def test_each_has_words(self):
        for name in [*STONE_ERRORS, *MISSING]:
            for turn in range(5):
                self.assertTrue(str(made(name, turn)[0]).startswith(name), name)


if __name__ == "__main__":
    unittest.main()
