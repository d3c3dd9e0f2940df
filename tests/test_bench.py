"""Points 19, 20, 21 and 23 and the interface of gapstone/bench.py, but for what is found for watches."""

import copy
import unittest

from gapstone import bench as module
from gapstone.bench import Bench
from gapstone.discs import middle
from gapstone.dish import Dish
from gapstone.errors import (
    BadCall, BadDeed, BadDisc, BadName, BadNumber, BadTimes, BadTouch, BadTurn, BadWord, Full, InUse, NoDish, NoWatch,
    NothingLeft, OnRim, Taken, TooMany, Unclosed,
)
from gapstone.views import grown, mirrored, moved, seen, turned_by
from gapstone.words import turned
from tests.helpers import (
    CHAIN, MANY_SEATS, ROOTS, STRIP, Refusing, calls_up_to, deep_stone, rim_place, seats_of, shown, standing, swap,
    words_up_to,
)

SEATS = seats_of(ROOTS[0])
OTHER = seats_of(ROOTS[1])
DISH = Dish(SEATS)
HERE = ((0, 1), (0, 1))
PLACE = ((1, 2), (1, 10))
RIM_PLACE = rim_place(SEATS[1])
BAD_NAMES = ["", "abcdefg", "A", "aB", "a1", "a b", " a", "a_b", "-", "a\n", "a.b"]
GOOD_NAMES = ["a", "z", "abcdef", "dish", "aaaaaa"]
BAD_WORDS = [("x", 0), ("ax", 1), ("aa", 1), ("A", 0), ("abcabb", 5), ("ab" * 20 + "a", 40), (" ", 0)]
BAD_CALLS = ["", "E", "AB", "aa", "aB", "x", "ab" * 20 + "a", " a"]


def full_bench():
    """Six dishes a to f, twenty marks in a, eight watches of b."""
    bench = Bench()
    bench.all_of([("dish", name, MANY_SEATS[at]) for at, name in enumerate("abcdef")])
    bench.all_of([("mark", "a", call, at + 1) for at, call in enumerate(calls_up_to(2)[:20])])
    bench.all_of([("watch", name, "b", PLACE) for name in ("w", "ww", "www", "wwww", "wwwww", "wwwwww", "v", "vv")])
    return bench


class BenchCase(Refusing):
    def refuses(self, bench, kind, values, deed):
        """The deed is refused, by itself, as a step and by its method, and nothing changes."""
        before, ahead = shown(bench), bench.twin()
        self.refused(kind, values, bench.do, deed)
        self.refused(kind, values, bench.all_of, [deed])
        self.refused(kind, values, getattr(bench, deed[0]), *deed[1:])
        self.refused(kind, values, bench.all_of, [("dish", "zzzzzz", SEATS), ("drop", "zzzzzz"), deed])
        self.assertEqual(shown(bench), before)
        self.assertEqual(bench, ahead)


class Values(unittest.TestCase):
    def test_most(self):
        self.assertEqual((module.MOST_DISHES, module.MOST_MARKS, module.MOST_WATCHES), (6, 20, 8))

    def test_empty_one(self):
        bench = Bench()
        self.assertEqual(shown(bench), {"dishes": {}, "marks": {}, "watches": {}, "kept": ([], 0), "steps": (0, 0)})
        self.assertEqual(len(bench), 0)


class Dishes(BenchCase):
    def test_a_new_one(self):
        for name in GOOD_NAMES:
            bench = Bench()
            self.assertIsNone(bench.dish(name, SEATS))
            self.assertIsNone(bench.do(("dish", "other", tuple(OTHER))))
            self.assertEqual(bench.names(), sorted([name, "other"]))
            self.assertEqual((bench.told(name), bench.told("other")), (DISH, Dish(OTHER)))
            self.assertEqual((bench.marks(name), len(bench), bench.steps()), ([], 2, (2, 0)))

    def test_by_names(self):
        bench = Bench()
        bench.dish(discs=SEATS, name="a")
        bench.lead(word="ab", name="a")
        bench.move(by=HERE, name="a")
        bench.turn(by=((1, 1), (0, 1)), name="a")
        bench.grow(times_of=(1, 1), name="a")
        bench.mirror(name="a")
        bench.mirror(name="a")
        bench.mark(number=5, call="A", name="a")
        bench.watch(place=PLACE, dish="a", name="w")
        self.assertEqual(bench.told(name="a"), DISH.led("ab"))
        self.assertEqual(bench.marks(name="a"), [("A", 5)])
        self.assertEqual(bench.watched(name="w"), ("a", PLACE))
        self.assertEqual((bench.load(word="", name="a"), bench.found(most=9, name="w")), (5, bench.found(name="w")))
        bench.let(name="w")
        bench.see(most=3, place=middle(bench.told("a").stone("B")), name="a")
        bench.drop(name="a")
        bench.do(deed=("dish", "b", SEATS))
        bench.all_of(deeds=[])
        self.assertEqual((bench.names(), bench.steps()), (["b"], (14, 0)))

    def test_no_names(self):
        bench = Bench()
        bench.dish("a", SEATS)
        for name in BAD_NAMES:
            self.refuses(bench, BadName, {"name": name}, ("dish", name, SEATS))
            # It goes ahead of what the discs are refused for.
            self.refuses(bench, BadName, {"name": name}, ("dish", name, []))

    def test_taken_ones(self):
        bench = Bench()
        bench.dish("a", SEATS)
        self.refuses(bench, Taken, {"name": "a"}, ("dish", "a", OTHER))
        self.refuses(bench, Taken, {"name": "a"}, ("dish", "a", SEATS[:3]))

    def test_full(self):
        bench = full_bench()
        self.refused(Full, {"most": 6}, bench.dish, "g", SEATS)
        self.refused(Full, {"most": 6}, bench.dish, "g", SEATS[:3])
        self.refused(Taken, {"name": "a"}, bench.dish, "a", SEATS)
        self.refused(BadName, {"name": "G"}, bench.dish, "G", SEATS)
        bench.drop("f")
        bench.dish("g", SEATS)
        self.assertEqual((bench.names(), len(bench)), (["a", "b", "c", "d", "e", "g"], 6))

    def test_discs_that_begin_no_dish(self):
        bench = Bench()
        odd = ((0, 1), (1, 1), (0, 1), (0, 1))
        self.refuses(bench, BadDisc, {"at": 4}, ("dish", "a", []))
        self.refuses(bench, BadDisc, {"at": 4}, ("dish", "a", SEATS + SEATS[:1]))
        self.refuses(bench, BadDisc, {"at": 2}, ("dish", "a", [*SEATS[:2], odd, SEATS[3]]))
        self.refuses(bench, BadTouch, {"one": "a", "other": "b"}, ("dish", "a", [SEATS[0], *SEATS[:3]]))
        # Four stones between two straight lines: no stone has a bend below nought.
        self.refuses(bench, Unclosed, {}, ("dish", "a", swap(STRIP, "ab")))
        self.refuses(bench, TooMany, {"most": 400}, ("dish", "a", swap(SEATS, CHAIN[:401])))
        bench.dish("a", swap(SEATS, CHAIN[:400]))
        self.assertEqual(len(bench.told("a").root()[0]), 400)

    def test_handed_lists_are_not_kept(self):
        bench, discs = Bench(), list(SEATS)
        deeds = [("dish", "a", discs)]
        bench.all_of(deeds)
        discs.reverse()
        deeds.clear()
        self.assertEqual(bench.told("a"), DISH)
        bench.undo()
        bench.redo()
        self.assertEqual(bench.told("a"), DISH)

    def test_handed_lists_stay(self):
        discs, deeds = list(SEATS), [("dish", "a", SEATS), ("mark", "a", "A", 3), ("lead", "a", "ab")]
        before = copy.deepcopy((discs, deeds))
        bench = Bench()
        bench.all_of(deeds)
        bench.dish("b", discs)
        self.assertEqual((discs, deeds), before)

    def test_drop(self):
        bench = full_bench()
        bench.drop("a")
        self.assertEqual(bench.names(), ["b", "c", "d", "e", "f"])
        self.refused(NoDish, {"name": "a"}, bench.marks, "a")
        self.refused(NoDish, {"name": "a"}, bench.told, "a")
        bench.dish("a", OTHER)
        self.assertEqual(bench.marks("a"), [])
        bench.undo()
        bench.undo()
        self.assertEqual(len(bench.marks("a")), 20)

    def test_drop_refused(self):
        bench = Bench()
        bench.dish("a", SEATS)
        bench.dish("b", SEATS)
        for name in ("q", "d", "c", "z"):
            bench.watch(name, "a", PLACE)
        bench.watch("aa", "b", PLACE)
        self.refuses(bench, NoDish, {"name": "c"}, ("drop", "c"))
        self.refuses(bench, NoDish, {"name": ""}, ("drop", ""))
        self.refuses(bench, InUse, {"name": "c"}, ("drop", "a"))
        bench.let("c")
        self.refuses(bench, InUse, {"name": "d"}, ("drop", "a"))
        self.refuses(bench, InUse, {"name": "aa"}, ("drop", "b"))
        bench.let("aa")
        bench.drop("b")
        self.assertEqual(bench.names(), ["a"])

    def test_names_of_dishes_and_watches_apart(self):
        bench = Bench()
        bench.dish("a", SEATS)
        bench.watch("a", "a", PLACE)
        self.assertEqual((bench.names(), bench.watches(), bench.watched("a")), (["a"], ["a"], ("a", PLACE)))
        self.refuses(bench, InUse, {"name": "a"}, ("drop", "a"))


class Leads(BenchCase):
    def test_the_dish_is_led_and_marks_stay_on_their_stones(self):
        for word in words_up_to(3):
            bench = Bench()
            bench.dish("a", MANY_SEATS[8])
            dish = bench.told("a")
            calls = calls_up_to(2)[:20]
            for at, call in enumerate(calls):
                bench.mark("a", call, at - 30)
            bench.lead("a", word)
            self.assertEqual(bench.told("a"), dish.led(word))
            self.assertEqual({call: number for call, number in bench.marks("a")},
                             {turned(call, word): at - 30 for at, call in enumerate(calls)})
            stones = {bench.told("a").stone(call): number for call, number in bench.marks("a")}
            self.assertEqual(stones, {dish.stone(call): at - 30 for at, call in enumerate(calls)})
            bench.lead("a", word[::-1])
            self.assertEqual((bench.told("a"), len(bench.marks("a"))), (dish, 20))

    def test_other_dishes_stay(self):
        bench = Bench()
        bench.dish("a", SEATS)
        bench.dish("b", SEATS)
        bench.mark("b", "A", 7)
        bench.watch("w", "a", PLACE)
        bench.lead("a", "abc")
        self.assertEqual((bench.told("b"), bench.marks("b"), bench.watched("w")), (DISH, [("A", 7)], ("a", PLACE)))

    def test_refusals(self):
        bench = Bench()
        bench.dish("a", SEATS)
        bench.mark("a", CHAIN[:40], 5)
        for word, at in BAD_WORDS:
            self.refuses(bench, BadWord, {"at": at}, ("lead", "a", word))
            self.refuses(bench, NoDish, {"name": "b"}, ("lead", "b", word))

    def test_marks_of_forty_letters(self):
        bench = Bench()
        bench.dish("a", SEATS)
        bench.mark("a", "ab" * 15, 5)
        bench.mark("a", "A", 6)
        bench.lead("a", "cd" * 5)
        self.assertEqual(bench.marks("a"), [("A", 6), ("dc" * 5 + "ab" * 15, 5)])
        for word in words_up_to(2)[1:]:
            if word[0] != "d":
                self.refuses(bench, TooMany, {"most": 40}, ("lead", "a", word))
        bench.lead("a", "dc")
        self.assertEqual(bench.marks("a"), [("A", 6), (("dc" * 5 + "ab" * 15)[2:], 5)])
        bench.lead("a", "cd")
        bench.mark("a", "dc" * 5 + "ab" * 15, 0)
        bench.lead("a", "a")
        self.assertEqual(bench.marks("a"), [("a", 6)])

    def test_forty_one_letters_of_a_great_one(self):
        bench = Bench()
        bench.dish("a", SEATS)
        bench.lead("a", CHAIN[:39] + "a")
        bench.mark("a", "ab" * 20, 1)
        self.refuses(bench, TooMany, {"most": 40}, ("lead", "a", "c"))
        self.assertIsNone(bench.lead("a", "ab"))

    def test_beyond_four_hundred_swaps(self):
        bench = Bench()
        bench.dish("a", swap(SEATS, CHAIN[:390]))
        bench.mark("a", "D", 3)
        self.refuses(bench, TooMany, {"most": 400}, ("lead", "a", CHAIN[:11]))
        bench.lead("a", CHAIN[:10])
        self.assertEqual(bench.told("a").seats(), swap(SEATS, CHAIN[:400]))
        # Of both refusals the one for the marks goes ahead.
        bench.mark("a", "ab" * 20, 3)
        self.refuses(bench, TooMany, {"most": 40}, ("lead", "a", "c"))
        bench.mark("a", "ab" * 20, 0)
        self.refuses(bench, TooMany, {"most": 400}, ("lead", "a", "c"))


class Viewed(BenchCase):
    def views(self, dish):
        return [
            (("move", "a", ((1, 3), (-2, 1))), moved(dish, ((1, 3), (-2, 1)))),
            (("turn", "a", ((-3, 5), (4, 5))), turned_by(dish, ((-3, 5), (4, 5)))),
            (("grow", "a", (22, 7)), grown(dish, (22, 7))),
            (("mirror", "a"), mirrored(dish)),
            (("see", "a", middle(dish.stone("ab"))), seen(dish, middle(dish.stone("ab")))),
        ]

    def test_views(self):
        for seats in MANY_SEATS:
            for deed, view in self.views(Dish(seats)):
                bench = Bench()
                bench.dish("a", seats)
                bench.mark("a", "abc", 4)
                bench.mark("a", "B", -4)
                bench.watch("w", "a", PLACE)
                other = bench.twin()
                self.assertIsNone(bench.do(deed))
                self.assertIsNone(getattr(other, deed[0])(*deed[1:]))
                self.assertEqual(bench.told("a"), view)
                self.assertEqual(bench.marks("a"), [("B", -4), ("abc", 4)])
                self.assertEqual(bench.watched("w"), ("a", PLACE))
                self.assertEqual(shown(bench), shown(other))
                bench.undo()
                self.assertEqual(bench.told("a").seats(), seats)

    def test_refusals(self):
        bench = Bench()
        bench.dish("a", SEATS)
        self.refuses(bench, BadTurn, {}, ("turn", "a", ((1, 1), (1, 1))))
        self.refuses(bench, BadTimes, {}, ("grow", "a", (0, 1)))
        self.refuses(bench, BadTimes, {}, ("grow", "a", (-2, 1)))
        self.refuses(bench, OnRim, {"call": "B"}, ("see", "a", RIM_PLACE))
        self.refuses(bench, TooMany, {"most": 200}, ("see", "a", middle(deep_stone(201))))
        self.refuses(bench, TooMany, {"most": 200}, ("see", "a", rim_place(deep_stone(201))))
        for deed in [("move", "b", HERE), ("turn", "b", ((1, 1), (1, 1))), ("grow", "b", (0, 1)), ("mirror", "b"),
                     ("see", "b", RIM_PLACE)]:
            self.refuses(bench, NoDish, {"name": "b"}, deed)

    def test_see_with_its_bound(self):
        bench = Bench()
        bench.dish("a", SEATS)
        for many in (1, 7, 201, 400):
            place = middle(deep_stone(many))
            before = shown(bench)
            self.refused(TooMany, {"most": many - 1}, bench.see, "a", place, most=many - 1)
            self.refused(NoDish, {"name": "b"}, bench.see, "b", place, most=many - 1)
            self.assertEqual(shown(bench), before)
            self.assertIsNone(bench.see("a", place, most=many))
            self.assertEqual(bench.told("a"), seen(DISH, place, most=many))
            bench.undo()
        self.refused(TooMany, {"most": 400}, bench.see, "a", middle(deep_stone(401)), most=401)
        self.refused(OnRim, {"call": CHAIN[:201]}, bench.see, "a", rim_place(deep_stone(201)), most=201)
        self.assertEqual((bench.told("a"), bench.steps()), (DISH, (1, 1)))
        self.assertIsNone(bench.see("a", middle(deep_stone(200))))


class Marks(BenchCase):
    def test_marks(self):
        bench = Bench()
        bench.dish("a", SEATS)
        self.assertIsNone(bench.mark("a", "ab"))
        bench.mark("a", "D", 999999999)
        bench.mark("a", "ba", -999999999)
        bench.do(("mark", "a", "c", 7))
        bench.mark("a", "A", 2)
        bench.mark("a", "ab" * 20, 9)
        told = [("A", 2), ("D", 999999999), ("c", 7), ("ab", 1), ("ba", -999999999), ("ab" * 20, 9)]
        self.assertEqual(bench.marks("a"), told)
        bench.mark("a", "ab", -5)
        bench.mark("a", "c", 0)
        bench.mark("a", "A", 0)
        self.assertEqual(bench.marks("a"), [("D", 999999999), ("ab", -5), ("ba", -999999999), ("ab" * 20, 9)])

    def test_nought_where_there_is_none(self):
        bench = full_bench()
        before = standing(bench)
        bench.mark("a", "dcd", 0)
        bench.mark("b", "A", 0)
        self.assertEqual((standing(bench), bench.steps()), (before, (5, 0)))

    def test_refusals(self):
        bench = Bench()
        bench.dish("a", SEATS)
        bench.mark("a", "A", 5)
        for number in (10 ** 9, -10 ** 9, 10 ** 39, -10 ** 39):
            self.refuses(bench, BadNumber, {"number": number}, ("mark", "a", "A", number))
            self.refuses(bench, BadNumber, {"number": number}, ("mark", "a", "B", number))
            self.refuses(bench, BadCall, {}, ("mark", "a", "E", number))
            self.refuses(bench, NoDish, {"name": "b"}, ("mark", "b", "E", number))
        for call in BAD_CALLS:
            self.refuses(bench, BadCall, {}, ("mark", "a", call, 5))
            self.refuses(bench, BadCall, {}, ("mark", "a", call, 0))

    def test_full(self):
        bench = full_bench()
        self.assertEqual(len(bench.marks("a")), 20)
        self.refused(Full, {"most": 20}, bench.mark, "a", "dcd", 5)
        self.refused(Full, {"most": 20}, bench.mark, "a", "dcd")
        self.refused(BadNumber, {"number": 10 ** 9}, bench.mark, "a", "dcd", 10 ** 9)
        self.refused(BadCall, {}, bench.mark, "a", "dd", 1)
        self.assertEqual(bench.steps(), (3, 0))
        bench.mark("a", "A", 50)
        bench.mark("a", "dcd", 0)
        bench.mark("b", "dcd", 5)
        bench.mark("a", "B", 0)
        bench.mark("a", "dcd", 5)
        self.refused(Full, {"most": 20}, bench.mark, "a", "B", 5)
        self.assertEqual((bench.marks("a")[0], bench.marks("a")[-1]), (("A", 50), ("dcd", 5)))

    def test_told_lists_are_new(self):
        bench = full_bench()
        before = shown(bench)
        for told in (bench.marks("a"), bench.names(), bench.watches(), bench.held(), bench.told("a").seats()):
            told.clear()
        self.assertEqual(shown(bench), before)


class Watches(BenchCase):
    def test_watches(self):
        bench = Bench()
        bench.dish("a", SEATS)
        for name in GOOD_NAMES:
            self.assertIsNone(bench.watch(name, "a", PLACE))
        self.assertEqual(bench.watches(), sorted(GOOD_NAMES))
        self.assertEqual(bench.watched("abcdef"), ("a", PLACE))
        self.assertIsNone(bench.let("abcdef"))
        self.refused(NoWatch, {"name": "abcdef"}, bench.watched, "abcdef")
        bench.do(("watch", "abcdef", "a", HERE))
        self.assertEqual(bench.watched("abcdef"), ("a", HERE))

    def test_refusals(self):
        bench = Bench()
        bench.dish("a", SEATS)
        bench.watch("w", "a", PLACE)
        for name in BAD_NAMES:
            self.refuses(bench, BadName, {"name": name}, ("watch", name, "a", PLACE))
            self.refuses(bench, BadName, {"name": name}, ("watch", name, "b", PLACE))
            self.refuses(bench, NoWatch, {"name": name}, ("let", name))
        self.refuses(bench, Taken, {"name": "w"}, ("watch", "w", "a", HERE))
        self.refuses(bench, Taken, {"name": "w"}, ("watch", "w", "b", HERE))
        self.refuses(bench, NoDish, {"name": "b"}, ("watch", "v", "b", HERE))
        self.refuses(bench, NoWatch, {"name": "v"}, ("let", "v"))
        for method in (bench.watched, bench.found):
            self.refused(NoWatch, {"name": "v"}, method, "v")

    def test_full(self):
        bench = full_bench()
        self.assertEqual(len(bench.watches()), 8)
        self.refused(Full, {"most": 8}, bench.watch, "x", "a", HERE)
        self.refused(NoDish, {"name": "x"}, bench.watch, "x", "x", HERE)
        self.refused(Taken, {"name": "w"}, bench.watch, "w", "x", HERE)
        self.refused(BadName, {"name": "W"}, bench.watch, "W", "x", HERE)
        bench.let("w")
        bench.watch("x", "a", HERE)
        self.refused(Full, {"most": 8}, bench.watch, "w", "b", PLACE)


class BadDeeds(Refusing):
    DEEDS = [
        ("dish", "b", OTHER), ("drop", "a"), ("lead", "a", "ab"), ("move", "a", HERE), ("turn", "a", ((1, 1), (0, 1))),
        ("grow", "a", (2, 1)), ("mirror", "a"), ("see", "a", ((1, 2), (0, 1))), ("mark", "a", "A", 5),
        ("watch", "w", "a", PLACE), ("let", "v"),
    ]
    BAD = [
        ((), None), (("",), ""), (("paint", "a"), "paint"), (("Dish", "b", OTHER), "Dish"), (("undo",), "undo"),
        (("found", "w"), "found"), (("all_of", []), "all_of"), (("dish ", "b", OTHER), "dish "), (("do", ("drop", "a")), "do"),
        (("mark", "a", "A"), "mark"), (("see", "a", HERE, 5), "see"),
    ]

    def bench(self):
        bench = Bench()
        bench.dish("a", SEATS)
        bench.dish("c", SEATS)
        bench.watch("v", "c", PLACE)
        bench.mirror("a")
        bench.undo()
        return bench

    def test_each_deed(self):
        for deed in self.DEEDS:
            one, other = self.bench(), self.bench()
            self.assertIsNone(one.do(deed))
            self.assertIsNone(other.all_of([deed]))
            self.assertEqual(shown(one), shown(other))
            self.assertEqual(one.steps(), (4, 0))

    def test_another_count_or_text(self):
        bench = self.bench()
        before = shown(bench)
        bad = list(self.BAD)
        for deed in self.DEEDS:
            bad += [(deed + (1,), deed[0]), (deed[:-1], deed[0]), (deed[:1], deed[0])]
        for deed, word in bad:
            self.refused(BadDeed, {"word": word}, bench.do, deed)
            self.refused(BadDeed, {"word": word}, bench.all_of, [deed])
            self.refused(BadDeed, {"word": word}, bench.all_of, [("mirror", "a"), deed, ("let", "v")])
            # It goes ahead of all refusals, those of deeds ahead of it too; of two bad ones the first.
            self.refused(BadDeed, {"word": word}, bench.all_of, [("drop", "q"), deed, ("paint",)])
            self.assertEqual(shown(bench), before)


class Steps(Refusing):
    def test_all_of(self):
        bench = Bench()
        self.assertIsNone(bench.all_of([("dish", "a", SEATS), ("mark", "a", "A", 5), ("lead", "a", "ab")]))
        self.assertEqual((bench.told("a"), bench.marks("a"), bench.steps()), (DISH.led("ab"), [("ba", 5)], (1, 0)))
        bench.undo()
        self.assertEqual((bench.names(), bench.steps()), ([], (0, 1)))
        bench.redo()
        self.assertEqual((bench.told("a"), bench.marks("a"), bench.steps()), (DISH.led("ab"), [("ba", 5)], (1, 0)))

    def test_one_refused_at_each_place(self):
        good = [("dish", "b", SEATS), ("mark", "a", "A", 5), ("lead", "a", "ab"), ("watch", "w", "b", PLACE), ("mirror", "b")]
        for at in range(len(good) + 1):
            for deed, kind, values in [(("drop", "q"), NoDish, {"name": "q"}), (("let", "q"), NoWatch, {"name": "q"}),
                                       (("mark", "a", "x", 1), BadCall, {}), (("grow", "a", (0, 1)), BadTimes, {})]:
                bench = Bench()
                bench.dish("a", SEATS)
                bench.dish("c", OTHER)
                bench.undo()
                before = shown(bench)
                self.refused(kind, values, bench.all_of, good[:at] + [deed] + good[at:])
                self.assertEqual(shown(bench), before)
                bench.redo()
                self.assertEqual(bench.told("c"), Dish(OTHER))

    def test_the_first_refusal_is_told(self):
        bench = Bench()
        self.refused(NoDish, {"name": "b"}, bench.all_of, [("dish", "a", SEATS), ("drop", "b"), ("drop", "c")])
        self.refused(Taken, {"name": "a"}, bench.all_of, [("dish", "a", SEATS), ("dish", "a", SEATS), ("drop", "c")])

    def test_each_deed_sees_those_ahead(self):
        bench = Bench()
        bench.all_of([("dish", "a", SEATS), ("watch", "w", "a", PLACE), ("let", "w"), ("drop", "a"), ("dish", "a", OTHER)])
        self.assertEqual((bench.told("a"), bench.watches(), bench.steps()), (Dish(OTHER), [], (1, 0)))

    def test_a_step_of_no_deeds(self):
        bench = Bench()
        bench.all_of([])
        self.assertEqual(bench.steps(), (1, 0))
        bench.dish("a", SEATS)
        bench.undo()
        bench.all_of([])
        self.assertEqual((bench.steps(), bench.names()), ((2, 0), []))
        self.refused(NothingLeft, {}, bench.redo)
        bench.undo()
        bench.undo()
        self.assertEqual(bench.steps(), (0, 2))
        self.refused(NothingLeft, {}, bench.undo)

    def test_nothing_left(self):
        bench = Bench()
        self.refused(NothingLeft, {}, bench.undo)
        self.refused(NothingLeft, {}, bench.redo)
        bench.dish("a", SEATS)
        self.refused(NothingLeft, {}, bench.redo)
        self.assertIsNone(bench.undo())
        self.refused(NothingLeft, {}, bench.undo)
        self.assertIsNone(bench.redo())
        self.refused(NothingLeft, {}, bench.redo)
        self.assertEqual((bench.names(), bench.steps()), (["a"], (1, 0)))

    def steps_of_all_kinds(self):
        return [
            ("dish", "a", SEATS), ("dish", "b", OTHER), ("mark", "a", "A", 5), ("mark", "a", "ab", -5), ("watch", "w", "a", PLACE),
            ("lead", "a", "abc"), ("move", "a", ((1, 2), (0, 1))), ("turn", "b", ((3, 5), (4, 5))), ("grow", "a", (2, 3)),
            ("mirror", "a"), ("see", "b", ((0, 1), (100, 1))), ("mark", "a", "cba", 0), ("let", "w"), ("drop", "a"),
        ]

    def test_back_and_forth_over_all_kinds_of_steps(self):
        bench = Bench()
        told = [standing(bench)]
        for deed in self.steps_of_all_kinds():
            bench.do(deed)
            told.append(standing(bench))
        many = len(told) - 1
        for turn in range(2):
            for at in range(many, 0, -1):
                self.assertEqual((standing(bench), bench.steps()), (told[at], (at, many - at)))
                bench.undo()
            for at in range(many):
                self.assertEqual((standing(bench), bench.steps()), (told[at], (at, many - at)))
                bench.redo()

    def test_a_new_step_behind_one_taken_back(self):
        for deed in self.steps_of_all_kinds()[5:12]:
            bench = Bench()
            bench.all_of(self.steps_of_all_kinds()[:5])
            bench.mirror("b")
            bench.mirror("b")
            bench.undo()
            bench.undo()
            self.assertEqual(bench.steps(), (1, 2))
            bench.do(deed)
            self.assertEqual(bench.steps(), (2, 0))
            self.refused(NothingLeft, {}, bench.redo)

    def test_what_is_refused_leaves_what_could_be_done_again(self):
        bench = Bench()
        bench.dish("a", SEATS)
        bench.mark("a", "A", 9)
        bench.undo()
        for deed in [("drop", "q"), ("dish", "a", SEATS), ("paint",), ("mark", "a", "A", 10 ** 9), ("see", "a", RIM_PLACE)]:
            with self.assertRaises((ValueError, LookupError)):
                bench.do(deed)
            with self.assertRaises((ValueError, LookupError)):
                bench.all_of([("mark", "a", "B", 1), deed])
        with self.assertRaises(OnRim):
            bench.see("a", RIM_PLACE)
        self.assertEqual(bench.steps(), (1, 1))
        bench.redo()
        self.assertEqual(bench.marks("a"), [("A", 9)])

    def test_asking_changes_no_step(self):
        bench = full_bench()
        bench.undo()
        before = shown(bench)
        bench.load("a")
        bench.told("a")
        bench.marks("a")
        bench.twin()
        self.assertEqual(shown(bench), before)
        self.assertEqual(bench.steps(), (2, 1))

    def test_many_steps(self):
        bench = Bench()
        bench.dish("a", SEATS)
        for number in range(1, 1001):
            bench.mark("a", "A", number)
        self.assertEqual(bench.steps(), (1001, 0))
        for number in range(1000, 500, -1):
            self.assertEqual(bench.marks("a"), [("A", number)])
            bench.undo()
        self.assertEqual(bench.steps(), (501, 500))


class Loads(Refusing):
    def test_loads(self):
        bench = Bench()
        bench.dish("a", SEATS)
        bench.dish("b", SEATS)
        marks = {"A": 1, "D": 20, "a": 300, "ab": 4000, "aba": 50000, "ac": -7, "b": 600000, "ba": 11, "d": -1}
        for call, number in marks.items():
            bench.mark("a", call, number)
        bench.mark("b", "C", 12345)
        for word in words_up_to(4)[1:]:
            told = sum([number for call, number in marks.items() if call.islower() and call[:len(word)] == word])
            self.assertEqual(bench.load("a", word), told)
            self.assertEqual(bench.load("b", word), 0)
        self.assertEqual(bench.load("a"), sum(marks.values()))
        self.assertEqual(bench.load("a", ""), sum(marks.values()))
        self.assertEqual(bench.load("b"), 12345)
        self.assertEqual((bench.load("a", "ab"), bench.load("a", "a"), bench.load("a", "c")), (54000, 54293, 0))

    def test_refusals(self):
        bench = Bench()
        bench.dish("a", SEATS)
        for word, at in BAD_WORDS:
            self.refused(BadWord, {"at": at}, bench.load, "a", word)
            self.refused(NoDish, {"name": "b"}, bench.load, "b", word)
        self.refused(NoDish, {"name": "b"}, bench.load, "b")
        self.refused(NoDish, {"name": "b"}, bench.told, "b")
        self.refused(NoDish, {"name": "b"}, bench.marks, "b")
        self.assertEqual(bench.load("a", "ab" * 20), 0)


class Twins(Refusing):
    def test_all_that_the_bench_has(self):
        bench = full_bench()
        bench.found("w")
        bench.mirror("c")
        bench.undo()
        twin = bench.twin()
        self.assertIsInstance(twin, Bench)
        self.assertEqual(shown(twin), shown(bench))
        twin.redo()
        self.assertEqual(twin.told("c"), mirrored(bench.told("c")))
        twin.undo()
        twin.undo()
        self.assertEqual(twin.watches(), [])

    def test_neither_sees_what_is_done_to_the_other(self):
        for first in (True, False):
            bench = full_bench()
            bench.found("w")
            bench.undo()
            bench.redo()
            twin = bench.twin()
            one, other = (bench, twin) if first else (twin, bench)
            before = shown(other)
            one.found("ww")
            one.mark("a", "A", 99)
            one.let("w")
            one.lead("b", "ab")
            one.drop("f")
            self.assertEqual(shown(other), before)
            for step in range(one.steps()[0]):
                one.undo()
            self.assertEqual(shown(other), before)
            one.all_of([])
            self.assertEqual(shown(other), before)

    def test_equal(self):
        self.assertTrue(Bench() == Bench())
        self.assertTrue(full_bench() == full_bench())
        bench = full_bench()
        bench.found("w")
        bench.all_of([])
        self.assertTrue(bench == full_bench() and full_bench() == bench)
        self.assertFalse(bench != full_bench())
        self.assertTrue(bench == bench.twin())

    def test_in_any_order(self):
        one, other = Bench(), Bench()
        one.all_of([("dish", "a", SEATS), ("dish", "b", OTHER), ("mark", "a", "A", 1), ("mark", "a", "b", 2),
                    ("watch", "v", "a", PLACE), ("watch", "w", "b", PLACE)])
        other.all_of([("dish", "b", OTHER), ("dish", "a", SEATS), ("watch", "w", "b", PLACE), ("watch", "v", "a", PLACE),
                      ("mark", "a", "b", 2), ("mark", "a", "A", 1)])
        self.assertTrue(one == other)

    def test_unequal(self):
        for deed in [("drop", "f"), ("lead", "a", "a"), ("move", "a", ((1, 1), (0, 1))), ("mark", "a", "A", 99),
                     ("mark", "a", "A", 0), ("mark", "b", "A", 1), ("let", "w"), ("mirror", "d")]:
            bench = full_bench()
            bench.do(deed)
            self.assertFalse(bench == full_bench(), deed)
            self.assertTrue(bench != full_bench())
            bench.undo()
            self.assertTrue(bench == full_bench())
        for place, dish in [(HERE, "b"), (PLACE, "c")]:
            bench = full_bench()
            bench.all_of([("let", "w"), ("watch", "w", dish, place)])
            self.assertFalse(bench == full_bench())

    def test_to_nothing_else(self):
        for thing in (None, 0, [], {}, "", "Bench", DISH, Dish):
            self.assertFalse(Bench() == thing)
            self.assertTrue(Bench() != thing)

    def test_same_stones_are_other_seats(self):
        one, other = Bench(), Bench()
        one.dish("a", SEATS)
        other.dish("a", SEATS[::-1])
        self.assertFalse(one == other)


if __name__ == "__main__":
    unittest.main()
