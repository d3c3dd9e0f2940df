"""Point 24 and the interface of gapstone/desk.py."""

import unittest

from gapstone.bench import Bench
from gapstone.desk import Desk
from gapstone.discs import middle
from gapstone.dish import Dish
from gapstone.views import grown, mirrored
from tests.helpers import CHAIN, MANY_SEATS, ROOTS, deep_stone, seats_of, shown, swap

SEATS = seats_of(ROOTS[0])
DISH = Dish(SEATS)
PLACE = ((0, 1), (-3, 10))


def desk_of(*deeds):
    bench = Bench()
    bench.all_of([("dish", "a", SEATS), *deeds])
    return Desk(bench=bench)


class Made(unittest.TestCase):
    def test_its_own_bench(self):
        desk, other = Desk(), Desk(bench=None)
        self.assertIsInstance(desk.bench, Bench)
        self.assertEqual(desk.bench, Bench())
        desk.bench.dish("a", SEATS)
        self.assertEqual((len(desk.bench), len(other.bench), len(Desk().bench)), (1, 0, 0))

    def test_the_very_one(self):
        # An empty bench has the length 0 and is the very one, too.
        for bench in (Bench(), desk_of().bench):
            self.assertIs(Desk(bench=bench).bench, bench)
        bench = Bench()
        desk = Desk(bench=bench)
        bench.dish("q", SEATS)
        self.assertEqual(desk.say("names"), "q")
        desk.say("mark q A 5")
        self.assertEqual(bench.marks("q"), [("A", 5)])

    def test_by_name_alone(self):
        with self.assertRaises(TypeError):
            Desk(Bench())


class Rows(unittest.TestCase):
    def test_lead(self):
        desk = desk_of(("mark", "a", "A", 5))
        self.assertEqual(desk.say("lead a ab"), "done")
        self.assertEqual((desk.bench.told("a"), desk.bench.marks("a")), (DISH.led("ab"), [("ba", 5)]))
        self.assertEqual(desk.say(row="lead a -"), "done")
        self.assertEqual((desk.bench.told("a"), desk.bench.steps()), (DISH.led("ab"), (3, 0)))

    def test_mirror(self):
        desk = desk_of()
        self.assertEqual(desk.say("mirror a"), "done")
        self.assertEqual(desk.bench.told("a"), mirrored(DISH))

    def test_mark(self):
        desk = desk_of()
        for row in ("mark a A 5", "mark a ab -999999999", "mark a d 7", "mark a d 0", "mark a b 0"):
            self.assertEqual(desk.say(row), "done")
        self.assertEqual((desk.bench.marks("a"), desk.bench.steps()), ([("A", 5), ("ab", -999999999)], (6, 0)))

    def test_watch_find_let(self):
        desk = desk_of()
        self.assertEqual(desk.say("watch w a 0,-3/10"), "done")
        self.assertEqual(desk.bench.watched("w"), ("a", PLACE))
        self.assertEqual(desk.say("find w"), "a")
        self.assertEqual((desk.bench.held(), desk.bench.reckoned()), (["w"], 1))
        self.assertEqual(desk.say("let w"), "done")
        self.assertEqual(desk.bench.watches(), [])
        self.assertEqual(desk.say("watch out a 1000,-1"), "done")
        self.assertEqual(desk.say("find out"), "A")

    def test_drop(self):
        desk = desk_of()
        self.assertEqual(desk.say("drop a"), "done")
        self.assertEqual(len(desk.bench), 0)

    def test_undo_redo(self):
        desk = desk_of()
        desk.say("mirror a")
        self.assertEqual(desk.say("undo"), "done")
        self.assertEqual(desk.bench.told("a"), DISH)
        self.assertEqual(desk.say("redo"), "done")
        self.assertEqual(desk.bench.told("a"), mirrored(DISH))
        self.assertEqual(desk.say("redo"), "no NothingLeft")
        self.assertEqual([desk.say("undo") for turn in range(3)], ["done", "done", "no NothingLeft"])

    def test_load(self):
        desk = desk_of(("mark", "a", "A", 1), ("mark", "a", "ab", -20), ("mark", "a", "abc", 3), ("mark", "a", "d", 400))
        for word, load in [("-", "384"), ("a", "-17"), ("ab", "-17"), ("abc", "3"), ("d", "400"), ("c", "0"), ("abcd", "0")]:
            self.assertEqual(desk.say("load a " + word), load)

    def test_names_and_watches(self):
        desk = Desk()
        self.assertEqual((desk.say("names"), desk.say("watches")), ("none", "none"))
        for name in ("b", "ab", "abcdef"):
            desk.bench.dish(name, SEATS)
        self.assertEqual((desk.say("names"), desk.say("watches")), ("ab abcdef b", "none"))
        for name in ("z", "y", "x"):
            desk.say(f"watch {name} b 0,0")
        self.assertEqual((desk.say("names"), desk.say("watches")), ("ab abcdef b", "x y z"))

    def test_root(self):
        desk = desk_of(("lead", "a", "abcd"), ("dish", "b", grown(Dish(seats_of(ROOTS[1])), (2, 1)).seats()))
        self.assertEqual(desk.say("root a"), "-1 2 2 3")
        self.assertEqual(desk.say("root b"), "-1 3/2 3 7/2")
        for seats in MANY_SEATS:
            bench = Bench()
            bench.dish("a", seats)
            told = [f"{over}/{under}".removesuffix("/1") for over, under in Dish(seats).root()[1]]
            self.assertEqual(Desk(bench=bench).say("root a"), " ".join(told))

    def test_asking_makes_no_step(self):
        desk = desk_of(("watch", "w", "a", PLACE))
        for row in ("find w", "load a -", "names", "watches", "root a"):
            desk.say(row)
        self.assertEqual(desk.bench.steps(), (1, 0))


class Refused(unittest.TestCase):
    def no(self, desk, row, called):
        before = shown(desk.bench)
        self.assertEqual(desk.say(row), "no " + called, row)
        self.assertEqual(shown(desk.bench), before)

    def test_refusals(self):
        desk = desk_of(("watch", "w", "a", PLACE), ("mark", "a", "ab" * 20, 1))
        for row, called in [
            ("lead b ab", "NoDish"), ("lead a aa", "BadWord"), ("lead a AB", "BadWord"), ("lead a --", "BadWord"),
            ("lead b aa", "NoDish"), ("lead a cdc", "TooMany"), ("mirror b", "NoDish"), ("mirror -", "NoDish"),
            ("mark b A 5", "NoDish"), ("mark a E 5", "BadCall"), ("mark a - 5", "BadCall"), ("mark a A 1000000000", "BadNumber"),
            ("mark a A " + "9" * 40, "BadNumber"), ("watch W a 0,0", "BadName"), ("watch - a 0,0", "BadName"),
            ("watch w a 0,0", "Taken"), ("watch w b 0,0", "Taken"), ("watch v b 0,0", "NoDish"), ("let v", "NoWatch"),
            ("let a", "NoWatch"), ("drop b", "NoDish"), ("drop a", "InUse"), ("drop -", "NoDish"), ("redo", "NothingLeft"),
            ("find v", "NoWatch"), ("find a", "NoWatch"), ("load b -", "NoDish"), ("load a aa", "BadWord"), ("load b aa", "NoDish"),
            ("root b", "NoDish"), ("root w", "NoDish"), ("load a A", "BadWord"),
        ]:
            self.no(desk, row, called)

    def test_full(self):
        desk = desk_of()
        for number, call in enumerate(["A", "B", "C", "D", "a", "b", "c", "d", "ab", "ac", "ad", "ba", "bc", "bd", "ca", "cb",
                                       "cd", "da", "db", "dc"]):
            self.assertEqual(desk.say(f"mark a {call} {number + 1}"), "done")
        self.no(desk, "mark a aba 1", "Full")
        for name in "abcdefgh":
            self.assertEqual(desk.say(f"watch {name} a 0,0"), "done")
        self.no(desk, "watch i a 0,0", "Full")

    def test_too_many(self):
        desk = desk_of(("watch", "w", "a", middle(deep_stone(201))))
        self.no(desk, "find w", "TooMany")
        self.assertEqual(desk.bench.found("w", most=201), CHAIN[:201])
        self.assertEqual(desk.say("find w"), CHAIN[:201])
        bench = Bench()
        bench.dish("a", swap(SEATS, CHAIN[:400]))
        self.no(Desk(bench=bench), "lead a cd", "TooMany")


class What(unittest.TestCase):
    def what(self, desk, row):
        before = shown(desk.bench)
        self.assertEqual(desk.say(row), "what", repr(row))
        self.assertEqual(shown(desk.bench), before)

    GOOD = ["lead a ab", "lead a -", "mirror a", "mark a A 5", "watch w a 0,-3/10", "let v", "drop b", "undo", "redo", "find v",
            "load a ab", "names", "watches", "root a"]

    def desk(self):
        desk = desk_of(("dish", "b", SEATS), ("watch", "v", "a", PLACE))
        desk.bench.mirror("a")
        desk.bench.undo()
        return desk

    def test_the_good_ones(self):
        for row in self.GOOD:
            self.assertNotIn(self.desk().say(row).split(" ")[0], ("what", "no"), row)

    def test_blanks(self):
        for row in self.GOOD:
            for odd in [" " + row, row + " ", "  " + row, row + "  ", "\n" + row, row.replace(" ", "  ") + " "]:
                self.what(self.desk(), odd)
            for at, sign in enumerate(row):
                if sign == " ":
                    self.what(self.desk(), row[:at] + " " + row[at:])
                    self.what(self.desk(), row[:at] + "_" + row[at + 1:])

    def test_nothing_between_blanks(self):
        for row in self.GOOD:
            words = row.split(" ")
            for at in range(len(words)):
                self.what(self.desk(), " ".join(words[:at] + [""] + words[at + 1:]))

    def test_too_few_or_too_many_words(self):
        for row in self.GOOD:
            words = row.split(" ")
            for many in range(1, len(words)):
                self.what(self.desk(), " ".join(words[:many]))
            for more in ("a", "-", "5", "0,0"):
                self.what(self.desk(), row + " " + more)

    def test_other_rows(self):
        for row in ["", " ", "-", "what", "none", "done", "paint", "paint a", "Names", "NAMES", "name", "undo1", "see a 0,0",
                    "move a 1,0", "turn a 1,0", "grow a 2", "dish a", "dish c 1 2 3 4", "held", "steps", "twin", "found v",
                    "marks a", "told a", "lead", "\n", "names\nwatches", "a"]:
            self.what(self.desk(), row)

    def test_numbers_that_are_not_so_written(self):
        for number in ["five", "+5", "05", "-0", "00", "5/1", "1/2", "5.0", "-", "--5", "5-", "1e3", "0x5", "1_0", "9" * 41,
                       "-" + "9" * 41, "A"]:
            self.what(self.desk(), "mark a A " + number)
            # So written it is no mark at all, whatever else could be refused.
            self.what(self.desk(), "mark q E " + number)

    def test_places_that_are_not_so_written(self):
        for place in ["0", "0,0,0", ",", "0,", ",0", "2/4,0", "0,1/1", "0,1/0", "0,-0", "00,0", "0;0", "(0,0)", "a,b", "1/-2,0",
                      "0,+1", "-", "9" * 41 + ",0", "0,1/" + "9" * 41]:
            self.what(self.desk(), "watch w a " + place)
            self.what(self.desk(), "watch W q " + place)

    def test_the_longest_that_are_so_written(self):
        self.assertEqual(self.desk().say("mark a A -" + "9" * 40), "no BadNumber")
        self.assertEqual(self.desk().say("watch w a " + "9" * 40 + ",1/" + "9" * 40), "done")


if __name__ == "__main__":
    unittest.main()
