"""Point 24 and the interface of gapstone/pages.py."""

import random
import unittest
from fractions import Fraction

from gapstone.bench import Bench
from gapstone.discs import disc_text
from gapstone.errors import BadText
from gapstone.pages import page, read_page
from tests.helpers import CHAIN, MANY_SEATS, ROOTS, STRIP, Refusing, calls_up_to, pair, seats_of, shown, standing, swap

SEATS = seats_of(ROOTS[0])
OTHER = seats_of(ROOTS[1])
TEXT = " ".join([disc_text(one) for one in SEATS])
OTHER_TEXT = " ".join([disc_text(one) for one in OTHER])
PLACE = ((1, 2), (-1, 10))

ROWS = [
    "dish a " + TEXT,
    "mark A 5",
    "mark D -999999999",
    "mark b 7",
    "mark ab 1",
    "mark ba 999999999",
    "dish ab " + OTHER_TEXT,
    "dish b " + TEXT,
    "mark abc -2",
    "watch a b 0,0",
    "watch w a 1/2,-1/10",
    "watch ww a -7,10/3",
]


def text_of(rows):
    return "".join([row + "\n" for row in rows])


def written_out():
    """The bench that the rows tell of."""
    bench = Bench()
    bench.dish("b", SEATS)
    bench.mark("b", "abc", -2)
    bench.dish("a", SEATS)
    for call, number in [("ba", 999999999), ("D", -999999999), ("A", 5), ("ab", 1), ("b", 7)]:
        bench.mark("a", call, number)
    bench.dish("ab", OTHER)
    bench.watch("ww", "a", ((-7, 1), (10, 3)))
    bench.watch("a", "b", ((0, 1), (0, 1)))
    bench.watch("w", "a", PLACE)
    return bench


def full_rows(dishes=6, marks=20, watches=8):
    """Rows of six dishes with twenty marks each and eight watches, or of more."""
    rows = []
    for name in "abcdefgh"[:dishes]:
        rows.append(f"dish {name} {TEXT}")
        rows += [f"mark {call} {at + 1}" for at, call in enumerate(calls_up_to(3)[:marks])]
    return rows + [f"watch {name} a 0,0" for name in "stuvwxyzzz"[:watches - 1]] + ["watch zz a 1,1"]


class Written(unittest.TestCase):
    def test_the_empty_one(self):
        self.assertEqual(page(Bench()), "")
        self.assertEqual(read_page(""), Bench())

    def test_rows(self):
        self.assertEqual(page(written_out()), text_of(ROWS))
        self.assertEqual(page(bench=written_out()), text_of(ROWS))

    def test_writing_changes_nothing(self):
        bench = written_out()
        bench.found("w")
        bench.undo()
        before = shown(bench)
        page(bench)
        self.assertEqual(shown(bench), before)

    def test_numbers_of_more_than_forty_figures_are_written(self):
        bench = Bench()
        bench.dish("a", seats_of(ROOTS[0], move=(10 ** 39, Fraction(1, 10 ** 39))))
        bench.move("a", (pair(Fraction(10 ** 39)), pair(Fraction(1, 7))))
        text = page(bench)
        self.assertEqual(text, "dish a " + " ".join([disc_text(one) for one in bench.told("a").seats()]) + "\n")
        self.assertGreater(max([len(piece) for piece in text.split(",")]), 41)


class Read(Refusing):
    def test_rows(self):
        told = read_page(text_of(ROWS))
        self.assertIsInstance(told, Bench)
        self.assertEqual(told, written_out())
        self.assertEqual(standing(told), standing(written_out()))
        self.assertEqual(read_page(text=text_of(ROWS)), told)

    def test_nothing_to_take_back(self):
        told = shown(read_page(text_of(ROWS)))
        self.assertEqual((told["kept"], told["steps"]), (([], 0), (0, 0)))

    def test_written_read_and_written_again(self):
        bench = Bench()
        for name, seats in zip("fedcba", MANY_SEATS):
            bench.dish(name, seats)
            for at, call in enumerate(calls_up_to(2)[::-1]):
                if at < 20:
                    bench.mark(name, call, at * 1000 - 9999)
        for at, name in enumerate("hgfedcba"):
            bench.watch(name, "abcdef"[at % 6], ((at, 1), (-1, at + 2)))
        text = page(bench)
        self.assertEqual(text.count("\n"), 6 + 120 + 8)
        told = read_page(text)
        self.assertEqual(told, bench)
        self.assertEqual(page(told), text)
        self.assertEqual(page(read_page(text_of(full_rows()))), text_of(full_rows()))

    def test_it_can_go_on(self):
        told = read_page(text_of(ROWS))
        told.lead("a", "ab")
        told.found("w")
        told.undo()
        self.assertEqual((page(told), told.reckoned(), told.steps()), (text_of(ROWS), 1, (0, 1)))

    def first_bad(self, rows):
        """The refusal's place, and that all rows ahead of it are good."""
        with self.assertRaises(BadText, msg=rows) as caught:
            read_page(text_of(rows))
        self.assertEqual(page(read_page(text_of(rows[:caught.exception.at]))), text_of(rows[:caught.exception.at]))
        return caught.exception.at

    def bad_at(self, at, rows):
        self.refused(BadText, {"at": at}, read_page, text_of(rows))
        self.assertEqual(self.first_bad(rows), at)

    def test_each_row_out(self):
        for at, row in enumerate(ROWS):
            rows = ROWS[:at] + ROWS[at + 1:]
            if row.startswith("dish a "):
                self.bad_at(0, rows)
            elif row.startswith("dish b "):
                # The mark becomes one of the dish ahead; the first watch looks at no dish.
                self.bad_at(8, rows)
            else:
                self.assertEqual(page(read_page(text_of(rows))), text_of(rows))

    def test_each_row_twice(self):
        for at, row in enumerate(ROWS):
            self.bad_at(at + 1, ROWS[:at + 1] + [row] + ROWS[at + 1:])

    def test_rows_exchanged(self):
        for one in range(len(ROWS)):
            for other in range(one + 1, len(ROWS)):
                rows = list(ROWS)
                rows[one], rows[other] = rows[other], rows[one]
                if (one, other) in [(5, 6), (5, 8), (7, 8)]:
                    # The last mark of a dish comes to another one.
                    self.assertEqual(page(read_page(text_of(rows))), text_of(rows))
                else:
                    self.assertIn(self.first_bad(rows), range(one, other + 2))

    def test_rows_out_of_their_order(self):
        a, b, watch = "dish a " + TEXT, "dish b " + TEXT, "watch w a 0,0"
        self.bad_at(1, [b, a])
        self.bad_at(1, ["dish b " + TEXT, "dish ab " + TEXT])
        self.bad_at(2, [a, "mark b 1", "mark a 1"])
        self.bad_at(2, [a, "mark ab 1", "mark c 1"])
        self.bad_at(2, [a, "mark a 1", "mark A 1"])
        self.bad_at(2, [a, "mark a 1", "mark a 1"])
        self.bad_at(2, [a, "mark a 1", "mark a 2"])
        self.bad_at(2, [a, watch, b])
        self.bad_at(2, [a, watch, "mark A 1"])
        self.bad_at(2, [a, "watch w a 0,0", "watch v a 0,0"])
        self.bad_at(2, [a, "watch w a 0,0", "watch w a 1,0"])
        self.bad_at(0, [watch, a])
        self.assertEqual(len(read_page(text_of([a, "mark D 1", "mark a 1", "mark d 1", "mark ab 1", b, "mark A 1", watch]))), 2)

    def test_a_mark_ahead_of_any_dish(self):
        self.bad_at(0, ["mark A 5", "dish a " + TEXT])
        self.bad_at(0, ["mark A 5"])

    def test_a_watch_of_no_dish(self):
        self.bad_at(0, ["watch w a 0,0"])
        self.bad_at(1, ["dish a " + TEXT, "watch w b 0,0"])
        self.bad_at(1, ["dish a " + TEXT, "watch w  0,0"])

    def test_a_mark_of_nought(self):
        for number in ("0", "-0", "00"):
            self.bad_at(1, ["dish a " + TEXT, "mark A " + number, "mark B 1"])
            self.bad_at(2, ["dish a " + TEXT, "mark A 1", "mark B " + number])
            self.bad_at(2, ["dish a " + TEXT, "mark A 1", "mark A " + number])

    def test_one_too_many(self):
        self.assertEqual(page(read_page(text_of(full_rows()))), text_of(full_rows()))
        self.bad_at(6 * 21, full_rows(dishes=7))
        self.bad_at(21, full_rows(marks=21))
        self.bad_at(6 * 21 + 8, full_rows(watches=9))
        self.bad_at(42, full_rows()[:42] + ["mark dcd 1"] + full_rows()[42:])

    def test_what_would_be_refused(self):
        a = "dish a " + TEXT
        odd = " ".join([disc_text(one) for one in [SEATS[0], SEATS[1], SEATS[2], SEATS[2]]])
        strip = " ".join([disc_text(one) for one in swap(STRIP, "ab")])
        far = " ".join([disc_text(one) for one in swap(SEATS, CHAIN[:401])])
        near = " ".join([disc_text(one) for one in swap(SEATS, CHAIN[:400])])
        for row in ["dish A " + TEXT, "dish abcdefg " + TEXT, "dish a1 " + TEXT, "dish  " + TEXT, "dish b " + odd,
                    "dish b " + strip, "dish b " + far, "mark E 5", "mark aa 5", "mark  5", "mark " + "ab" * 20 + "a 5",
                    "mark A 1000000000", "mark A -1000000000", "watch W a 0,0", "watch abcdefg a 0,0", "watch  a 0,0",
                    "dish b " + TEXT.replace("1,3,0,-2", "1,3,0,2,0"), "dish b " + TEXT.replace("1,3,0,-2", "1,3,0,-3")]:
            self.bad_at(1, [a, row, "paint"])
        self.assertEqual(len(read_page(text_of([a, "dish b " + near, "mark " + "ab" * 20 + " 5"]))), 2)

    def test_what_is_not_so_written(self):
        a = "dish a " + TEXT
        for row in ["", " ", "dish", "mark", "watch", "mark A", "mark A 5 ", " mark A 5", "mark  A 5", "mark A  5", "mark A 5 5",
                    "Mark A 5", "mark A +5", "mark A 05", "mark A 5/1", "mark A 1/2", "mark A five", "mark A", "mark 5 A",
                    "watch w a", "watch w a 0", "watch w a 0,0,0", "watch w a 0, 0", "watch w a 0 0", "watch w a 2/4,0",
                    "watch w a 0,1/1", "watch w a 0,1/0", "watch w a 0,1/-2", "watch w a 0,", "watch w a ,", "watch w a -0,0",
                    "watch w a 00,0", "watch w a 0,0 ", "dish b", "dish b " + TEXT + " ", "dish b " + TEXT + " " + TEXT,
                    "dish b " + TEXT.replace(" ", "  ", 1), "dish b " + " ".join(TEXT.split(" ")[:3]), "dish b " + TEXT + "\t",
                    "dish b " + TEXT.replace("2", "02", 1), "dish b " + TEXT.replace("-1", "-1/1", 1), "drop a", "lead a ab",
                    "let w", "mirror a", "mark a A 5", "paint", a.upper()]:
            self.bad_at(1, [a, row])
            self.bad_at(1, [a, row, "paint", a])
            self.bad_at(0, [row])

    def test_the_first_of_several(self):
        self.bad_at(2, ["dish a " + TEXT, "mark A 5", "mark A 6", "paint", "watch q q q"])

    def test_a_last_row_without_its_line_feed(self):
        for many in range(1, len(ROWS) + 1):
            text = text_of(ROWS[:many])[:-1]
            self.refused(BadText, {"at": many - 1}, read_page, text)
        self.refused(BadText, {"at": 1}, read_page, text_of(ROWS[:1]) + "paint")
        self.refused(BadText, {"at": 1}, read_page, text_of(ROWS[:1]) + " ")
        # A bad row ahead of it goes first.
        self.refused(BadText, {"at": 1}, read_page, text_of([ROWS[0], "paint"]) + ROWS[1])
        self.refused(BadText, {"at": 0}, read_page, "paint")

    def test_empty_rows(self):
        self.refused(BadText, {"at": 0}, read_page, "\n")
        self.refused(BadText, {"at": 0}, read_page, "\n\n")
        self.refused(BadText, {"at": len(ROWS)}, read_page, text_of(ROWS) + "\n")
        self.refused(BadText, {"at": 0}, read_page, "\n" + text_of(ROWS))

    def test_parts_of_many_figures(self):
        long, longer = "1" * 40, "1" * 41
        a = "dish a " + TEXT
        self.assertEqual(read_page(text_of([a, f"watch w a {long},-{long}"])).watched("w"),
                         ("a", ((int(long), 1), (-int(long), 1))))
        self.assertEqual(len(read_page(text_of([a, f"watch w a 1/{long},0"]))), 1)
        for place in (f"{longer},0", f"0,-{longer}", f"1/{longer},0", f"0,{longer}/2"):
            self.bad_at(1, [a, "watch w a " + place])
        self.bad_at(1, [a, "mark A " + long])
        self.bad_at(1, [a, "mark A " + longer])

    def test_discs_of_many_figures(self):
        # The longest back has 40 figures, and 41 where the dish is moved a little farther.
        for by, good in [(5 * 10 ** 19, True), (6 * 10 ** 19, False)]:
            bench = Bench()
            bench.dish("a", seats_of(ROOTS[0], move=(by, 0)))
            text = page(bench)
            figures = max([len(piece.strip("-")) for piece in text.replace(" ", ",").split(",")])
            self.assertEqual(figures <= 40, good)
            if good:
                self.assertEqual(read_page(text), bench)
            else:
                self.refused(BadText, {"at": 0}, read_page, text)

    def test_signs_put_in_out_and_exchanged(self):
        """Each text is the page of the bench that is read, or is refused at the row that was changed, or behind it."""
        chance = random.Random(3)
        text = text_of(ROWS)
        refused = 0
        for turn in range(3000):
            at = chance.randrange(len(text))
            sign = chance.choice("0123456789-/, abdmwAD\n~Zq")
            changed = chance.choice([text[:at] + sign + text[at:], text[:at] + text[at + 1:], text[:at] + sign + text[at + 1:]])
            try:
                self.assertEqual(page(read_page(changed)), changed)
            except BadText as refusal:
                refused += 1
                self.assertGreaterEqual(refusal.at, text[:at].count("\n"))
                rows = changed.split("\n")
                self.assertEqual(page(read_page(text_of(rows[:refusal.at]))), text_of(rows[:refusal.at]))
        self.assertGreater(refused, 2000)


if __name__ == "__main__":
    unittest.main()
