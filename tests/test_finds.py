"""Points 13 and 22: what is found for watches, kept, let go, and how often it was reckoned."""

import random
import unittest
from fractions import Fraction

from gapstone.bench import Bench
from gapstone.discs import middle, number
from gapstone.dish import Dish
from gapstone.errors import Missing, NoWatch, StoneError, TooMany
from gapstone.places import find
from gapstone.views import grown, moved, same, seen
from gapstone.words import turned
from tests.helpers import (
    CHAIN, MANY_SEATS, ROOTS, SEEN_SEATS, Refusing, call_in, common_place, deep_stone, seats_of, shown, words_up_to,
)

SEATS = seats_of(ROOTS[0])
OTHER = seats_of(ROOTS[1])
DISH = Dish(SEATS)
HERE = ((0, 1), (0, 1))
# Within the stones "a", "ab" and B of the dish.
IN_A, IN_AB, IN_B = [middle(DISH.stone(call)) for call in ("a", "ab", "B")]


def watching(place=IN_AB, seats=SEATS):
    """A bench with one dish a, another one b, and the watch w of a, whose stone is found."""
    bench = Bench()
    bench.all_of([("dish", "a", seats), ("dish", "b", OTHER), ("watch", "w", "a", place)])
    bench.found("w")
    return bench


class Found(Refusing):
    def kept(self, bench, call, times=1):
        """The find of w is kept, without having been reckoned anew."""
        self.assertEqual((bench.held(), bench.reckoned()), (["w"], times))
        self.assertEqual(bench.found("w"), call)
        self.assertEqual(bench.found("w", most=0), call)
        self.assertEqual((bench.held(), bench.reckoned()), (["w"], times))

    def gone(self, bench, times=1):
        self.assertEqual((bench.held(), bench.reckoned()), ([], times))

    def test_reckoned_when_asked(self):
        bench = Bench()
        bench.dish("a", SEATS)
        bench.watch("w", "a", IN_AB)
        self.gone(bench, 0)
        self.assertEqual(bench.found("w"), "ab")
        self.kept(bench, "ab")
        self.assertEqual(bench.steps(), (2, 0))

    def test_as_find_tells(self):
        for seats in [*MANY_SEATS, *SEEN_SEATS]:
            dish = Dish(seats)
            for call in ("A", "B", "d", "acd"):
                place = middle(dish.stone(call))
                bench = watching(place, seats)
                self.kept(bench, find(dish, place))

    def test_most(self):
        for many in (1, 9, 200, 201, 400):
            bench = Bench()
            bench.dish("a", SEATS)
            bench.watch("w", "a", middle(deep_stone(many)))
            before = shown(bench)
            self.refused(TooMany, {"most": many - 1}, bench.found, "w", most=many - 1)
            self.refused(TooMany, {"most": 0}, bench.found, "w", most=0)
            self.assertEqual(shown(bench), before)
            self.assertEqual(bench.found("w", most=many), CHAIN[:many])
            self.kept(bench, CHAIN[:many])
            self.assertEqual(bench.found("w"), CHAIN[:many])

    def test_two_hundred_where_it_is_left_out(self):
        bench = watching(middle(deep_stone(200)))
        self.kept(bench, CHAIN[:200])
        bench.watch("v", "a", middle(deep_stone(201)))
        self.refused(TooMany, {"most": 200}, bench.found, "v")
        self.kept(bench, CHAIN[:200])

    def test_no_watch(self):
        bench = watching()
        self.refused(NoWatch, {"name": "v"}, bench.found, "v")
        self.refused(NoWatch, {"name": "a"}, bench.found, "a", most=0)
        self.kept(bench, "ab")

    def test_two_watches_of_one_place(self):
        bench = watching()
        bench.watch("v", "a", IN_AB)
        self.kept(bench, "ab")
        self.assertEqual(bench.found("v"), "ab")
        self.assertEqual((bench.held(), bench.reckoned()), (["v", "w"], 2))
        bench.let("v")
        self.kept(bench, "ab", 2)

    def test_leads_keep_it(self):
        for word in words_up_to(3) + ["abcd" * 10, "ba" * 20]:
            bench = watching()
            bench.lead("a", word)
            self.kept(bench, turned("ab", word))
            bench.undo()
            self.kept(bench, "ab")
            bench.redo()
            self.kept(bench, turned("ab", word))
            bench.all_of([("lead", "a", "ab"), ("lead", "a", "cd")])
            self.kept(bench, call_in(call_in(turned("ab", word), "ab"), "cd"))

    def test_far_away_it_is_told_too(self):
        bench = watching()
        for step in range(9):
            bench.lead("a", CHAIN[:40])
        self.kept(bench, call_in("ab", CHAIN[:360]))
        self.assertGreater(len(bench.found("w")), 300)
        bench.let("w")
        bench.watch("w", "a", IN_AB)
        self.refused(TooMany, {"most": 200}, bench.found, "w")
        self.gone(bench)
        bench.undo()
        bench.undo()
        self.gone(bench)

    def test_where_two_stones_touch(self):
        for one, other in [("A", "B"), ("a", "ab"), ("B", "a"), ("D", "abc")]:
            place = common_place(DISH.stone(one), DISH.stone(other))
            bench = watching(place)
            call = bench.found("w")
            self.assertIn(call, (one, other))
            for word in words_up_to(3):
                bench.lead("a", word)
                self.kept(bench, turned(call, word))
                bench.undo()

    def test_marks_and_other_dishes_keep_it(self):
        bench = watching()
        for deed in [("mark", "a", "ab", 5), ("mark", "a", "ab", 0), ("mark", "b", "A", 5), ("move", "b", ((1, 1), (2, 1))),
                     ("lead", "b", "abc"), ("see", "b", ((99, 1), (0, 1))), ("drop", "b"), ("dish", "b", SEATS),
                     ("watch", "v", "b", IN_A), ("watch", "u", "a", IN_A), ("let", "v"), ("dish", "c", OTHER)]:
            bench.do(deed)
            self.kept(bench, "ab")
        while bench.steps()[0] > 1:
            bench.undo()
            self.kept(bench, "ab")
        bench.all_of([])
        self.kept(bench, "ab")

    def test_views_that_change_nothing_keep_it(self):
        for deed in [("move", "a", HERE), ("turn", "a", ((1, 1), (0, 1))), ("grow", "a", (1, 1))]:
            bench = watching()
            bench.do(deed)
            self.kept(bench, "ab")
            bench.undo()
            self.kept(bench, "ab")

    def test_views_that_change_the_seats_alone_keep_it(self):
        # The dish is the same upside down and turned by half, under other calls.
        bench = watching()
        bench.mirror("a")
        self.kept(bench, "dab")
        bench.turn("a", ((-1, 1), (0, 1)))
        self.kept(bench, find(bench.told("a"), IN_AB))
        bench.lead("a", "bc")
        self.kept(bench, find(bench.told("a"), IN_AB))
        bench.undo()
        bench.undo()
        self.kept(bench, "dab")
        bench.undo()
        self.kept(bench, "ab")

    def test_a_dish_that_is_the_same_seen_from_a_place(self):
        # The circle of one about (0, 0) meets the rims of B, C and D at right angles: A and "a" change places.
        dish = grown(moved(DISH, ((0, 1), (1, 4))), (4, 1))
        self.assertEqual(same(dish, seen(dish, HERE)), ("a", "B", "C", "D"))
        bench = watching(middle(dish.stone("ab")), dish.seats())
        bench.see("a", HERE)
        self.kept(bench, "b")
        self.assertEqual(bench.told("a").stone("b"), dish.stone("ab"))
        bench.undo()
        self.kept(bench, "ab")

    def test_other_stones_let_it_go(self):
        for deed in [("move", "a", ((1, 10 ** 30), (0, 1))), ("turn", "a", ((0, 1), (1, 1))), ("grow", "a", (2, 1)),
                     ("see", "a", IN_B), ("grow", "a", (10 ** 30, 10 ** 30 + 1))]:
            bench = watching()
            bench.do(deed)
            self.gone(bench)
            bench.undo()
            self.gone(bench)
            self.assertEqual(bench.found("w"), "ab")
            self.kept(bench, "ab", 2)
            bench.redo()
            self.gone(bench, 2)
            self.assertEqual(bench.found("w"), find(bench.told("a"), IN_AB))
            bench.undo()
            self.gone(bench, 3)

    def test_a_mirrored_dish_that_is_another(self):
        bench = watching(middle(OTHER[1]), seats_of(ROOTS[1], turn=(Fraction(3, 5), Fraction(4, 5))))
        bench.mirror("a")
        self.gone(bench)
        bench.mirror("a")
        self.gone(bench)

    def test_stones_far_beyond_any_count_of_swaps(self):
        # Grown so little and moved so near to where two stones touch, its seats are more swaps away than can be done.
        bench = watching(common_place(SEATS[0], SEATS[1]))
        bench.grow("a", (1, 10 ** 39))
        self.gone(bench)
        bench.found("w")
        bench.all_of([("grow", "a", (1, 10 ** 39)), ("move", "a", ((1, 1), (1, 10 ** 39)))])
        self.gone(bench, 2)

    def test_a_watch_that_is_gone(self):
        bench = watching()
        bench.let("w")
        self.gone(bench)
        bench.undo()
        self.gone(bench)
        bench.found("w")
        self.kept(bench, "ab", 2)
        bench.undo()
        self.assertEqual((bench.watches(), bench.held()), ([], []))

    def test_another_watch(self):
        for other in [("watch", "w", "a", IN_A), ("watch", "w", "b", IN_AB), ("watch", "w", "a", IN_AB)]:
            bench = watching()
            bench.all_of([("let", "w"), other])
            self.gone(bench)
            bench.found("w")
            bench.undo()
            # Taken back at once it is looked at behind the whole step alone.
            if other[2:] == ("a", IN_AB):
                self.kept(bench, "ab", 2)
                bench.redo()
                self.kept(bench, "ab", 2)
            else:
                self.gone(bench, 2)
                bench.redo()
                self.gone(bench, 2)

    def test_a_dish_gone_and_come_within_one_step(self):
        for discs, word in [(SEATS, ""), (DISH.four("abc"), "abc"), (DISH.four("d"), "d")]:
            bench = watching()
            bench.all_of([("let", "w"), ("drop", "a"), ("dish", "a", discs), ("watch", "w", "a", IN_AB)])
            self.gone(bench)
            self.assertEqual(bench.found("w"), turned("ab", word))
            bench.undo()
            self.kept(bench, "ab", 2)
            bench.redo()
            self.kept(bench, turned("ab", word), 2)

    def test_another_dish_come_within_one_step(self):
        for discs in (OTHER, moved(DISH, ((0, 1), (1, 9))).seats()):
            bench = watching()
            bench.all_of([("let", "w"), ("drop", "a"), ("dish", "a", discs), ("watch", "w", "a", IN_AB)])
            bench.found("w")
            bench.undo()
            self.gone(bench, 2)

    def test_a_dish_gone_and_come_apart(self):
        bench = watching()
        for deed in [("let", "w"), ("drop", "a"), ("dish", "a", SEATS), ("watch", "w", "a", IN_AB)]:
            bench.do(deed)
            self.gone(bench)
        bench.found("w")
        for step in range(4):
            bench.undo()
            self.gone(bench, 2)
        self.assertEqual(bench.watched("w"), ("a", IN_AB))

    def test_each_deed_of_a_step_is_looked_at(self):
        there, back = ("move", "a", ((1, 1), (0, 1))), ("move", "a", ((-1, 1), (0, 1)))
        bench = watching()
        bench.all_of([there, back])
        self.gone(bench)
        bench.found("w")
        bench.undo()
        self.kept(bench, "ab", 2)
        bench.redo()
        self.kept(bench, "ab", 2)
        # As two steps they are looked at apart.
        bench.do(there)
        bench.do(back)
        self.gone(bench, 2)

    def test_what_is_refused_lets_nothing_go(self):
        bench = watching()
        before = shown(bench)
        for deeds in [[("let", "w"), ("let", "w")], [("move", "a", ((1, 1), (0, 1))), ("drop", "a")], [("drop", "a")],
                      [("let", "w"), ("drop", "a"), ("dish", "a", OTHER), ("paint",)]]:
            with self.assertRaises((StoneError, Missing)):
                bench.all_of(deeds)
            self.assertEqual(shown(bench), before)
            self.kept(bench, "ab")

    def test_a_twins_own(self):
        bench = watching()
        bench.watch("v", "a", IN_A)
        twin = bench.twin()
        self.kept(twin, "ab")
        self.assertEqual(twin.found("v"), "a")
        self.assertEqual((twin.held(), twin.reckoned()), (["v", "w"], 2))
        self.kept(bench, "ab")
        bench.grow("a", (2, 1))
        self.gone(bench)
        self.assertEqual((twin.held(), twin.reckoned()), (["v", "w"], 2))
        twin.let("w")
        self.assertEqual((twin.held(), bench.twin().reckoned()), (["v"], 1))

    def test_asking_tells_the_same_again(self):
        bench = watching(common_place(SEATS[0], SEATS[1]))
        self.assertEqual({bench.found("w") for turn in range(5)}, {bench.found("w")})


class ByChance(unittest.TestCase):
    """Many deeds by chance, beside what the document says of each of them alone."""

    PLACES = [IN_A, IN_AB, IN_B, HERE, middle(OTHER[2]), common_place(SEATS[0], SEATS[1]), ((7, 1), (1, 3))]

    def deed(self, chance):
        name, watch, place = chance.choice("ab"), chance.choice("uvw"), chance.choice(self.PLACES)
        return chance.choice([
            ("dish", name, chance.choice([SEATS, SEATS[::-1], DISH.four("ab"), OTHER])), ("drop", name),
            ("lead", name, chance.choice(words_up_to(2))), ("lead", name, chance.choice(words_up_to(3))),
            ("move", name, HERE), ("move", name, ((chance.choice((-1, 1)), 1), (0, 1))), ("mirror", name),
            ("turn", name, ((-1, 1), (0, 1))), ("turn", name, ((0, 1), (1, 1))), ("see", name, place), ("grow", name, (1, 1)),
            ("mark", name, chance.choice("ABcd"), chance.randint(-2, 2)), ("watch", watch, name, place), ("let", watch),
            ("watch", watch, name, place),
        ])

    def stones(self, bench):
        told = {}
        for name in bench.held():
            dish, place = bench.watched(name)
            told[name] = (bench.watched(name), bench.told(dish), bench.told(dish).stone(bench.found(name)))
        return told

    def look(self, bench, before, reckoned):
        """What is kept now is what was and still has its watch and stones; each is the stone that it was."""
        kept = {}
        for name, (watch, dish, stone) in before.items():
            if name in bench.watches() and bench.watched(name) == watch:
                if same(bench.told(watch[0]), dish, most=1000) is not None:
                    kept[name] = stone
        self.assertEqual(bench.held(), sorted(kept))
        self.assertEqual(bench.reckoned(), reckoned)
        self.assertEqual({name: told[2] for name, told in self.stones(bench).items()}, kept)
        for watch, dish, stone in self.stones(bench).values():
            self.assertLessEqual(number(stone, watch[1])[0], 0)

    def act(self, chance, bench):
        before, reckoned, choice = self.stones(bench), bench.reckoned(), chance.randint(0, 9)
        if choice < 2:
            bench.undo() if choice == 0 else bench.redo()
            self.look(bench, before, reckoned)
        elif choice < 4:
            deeds = [self.deed(chance) for turn in range(chance.randint(0, 4))]
            one_by_one = bench.twin()
            bench.all_of(deeds)
            for deed in deeds:
                one_by_one.do(deed)
            self.assertEqual((one_by_one.held(), one_by_one), (bench.held(), bench))
        elif choice < 6:
            for name in bench.watches():
                known = name in bench.held()
                bench.found(name)
                reckoned += 0 if known else 1
            self.assertEqual((bench.held(), bench.reckoned()), (bench.watches(), reckoned))
        else:
            bench.do(self.deed(chance))
            self.look(bench, before, reckoned)

    def test_many_deeds(self):
        for seed in range(40):
            chance, bench = random.Random(seed), Bench()
            bench.all_of([("dish", "a", SEATS), ("dish", "b", OTHER), ("watch", "w", "a", IN_AB), ("watch", "v", "b", IN_A)])
            done = 0
            for turn in range(60):
                before = shown(bench)
                try:
                    self.act(chance, bench)
                    done += 1
                except (StoneError, Missing):
                    self.assertEqual(shown(bench) | {"kept": 0}, before | {"kept": 0})
            self.assertGreater(done, 15)


if __name__ == "__main__":
    unittest.main()
