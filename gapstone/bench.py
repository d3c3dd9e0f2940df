"""The bench: dishes under names, marks on their stones and watched places, through many deeds."""

from gapstone.dish import Dish
from gapstone.errors import BadDeed, BadName, BadNumber, Full, InUse, NoDish, NothingLeft, NoWatch, Taken, TooMany
from gapstone.places import MOST_SWAPS, find
from gapstone.stands import call_of
from gapstone.swaps import stone_behind
from gapstone.views import grown, mirrored, moved, same_stones, seen, turned_by
from gapstone.words import MOST_WORD, call_key, must_be_call, must_be_word, turned

MOST_DISHES = 6
MOST_MARKS = 20
MOST_WATCHES = 8
MOST_NAME = 6
NAME_SIGNS = "abcdefghijklmnopqrstuvwxyz"
MOST_NUMBER = 999999999


class Stand:
    """What a bench has at one time. Nothing changes it: each deed makes a new one, so that steps can be taken back."""

    def __init__(self, dishes, marked, watching):
        self.dishes = dishes
        self.marked = marked
        self.watching = watching


def without(table, name):
    return {one: table[one] for one in table if one != name}


def must_be_name(name):
    if name == "" or len(name) > MOST_NAME or not all([sign in NAME_SIGNS for sign in name]):
        raise BadName(name)


def must_be_free(table, name):
    must_be_name(name)
    if name in table:
        raise Taken(name)


def dish_of(stand, name):
    if name not in stand.dishes:
        raise NoDish(name)
    return stand.dishes[name]


def watch_of(stand, name):
    if name not in stand.watching:
        raise NoWatch(name)
    return stand.watching[name]


def begin_dish(stand, name, discs):
    must_be_free(stand.dishes, name)
    if len(stand.dishes) >= MOST_DISHES:
        raise Full(MOST_DISHES)
    return Stand({**stand.dishes, name: Dish(discs)}, {**stand.marked, name: {}}, stand.watching)


def drop_dish(stand, name):
    dish_of(stand, name)
    for watch in sorted(stand.watching):
        if stand.watching[watch][0] == name:
            raise InUse(watch)
    return Stand(without(stand.dishes, name), without(stand.marked, name), stand.watching)


def lead_dish(stand, name, word):
    dish = dish_of(stand, name)
    must_be_word(word)
    marks = stand.marked[name]
    led_marks = {turned(call, word): marks[call] for call in marks}
    if any([len(call) > MOST_WORD for call in led_marks]):
        raise TooMany(MOST_WORD)
    return Stand({**stand.dishes, name: dish.led(word)}, {**stand.marked, name: led_marks}, stand.watching)


def with_view(stand, name, view):
    return Stand({**stand.dishes, name: view}, stand.marked, stand.watching)


def move_dish(stand, name, by):
    return with_view(stand, name, moved(dish_of(stand, name), by))


def turn_dish(stand, name, by):
    return with_view(stand, name, turned_by(dish_of(stand, name), by))


def grow_dish(stand, name, times_of):
    return with_view(stand, name, grown(dish_of(stand, name), times_of))


def mirror_dish(stand, name):
    return with_view(stand, name, mirrored(dish_of(stand, name)))


def see_dish(stand, name, place, *, most=MOST_SWAPS):
    return with_view(stand, name, seen(dish_of(stand, name), place, most=most))


def mark_stone(stand, name, call, number):
    dish_of(stand, name)
    must_be_call(call)
    if abs(number) > MOST_NUMBER:
        raise BadNumber(number)
    marks = without(stand.marked[name], call)
    if number != 0:
        if len(marks) >= MOST_MARKS:
            raise Full(MOST_MARKS)
        marks[call] = number
    return Stand(stand.dishes, {**stand.marked, name: marks}, stand.watching)


def watch_place(stand, name, dish, place):
    must_be_free(stand.watching, name)
    dish_of(stand, dish)
    if len(stand.watching) >= MOST_WATCHES:
        raise Full(MOST_WATCHES)
    return Stand(stand.dishes, stand.marked, {**stand.watching, name: (dish, tuple(place))})


def let_watch(stand, name):
    watch_of(stand, name)
    return Stand(stand.dishes, stand.marked, without(stand.watching, name))


DEEDS = {
    "dish": begin_dish, "drop": drop_dish, "lead": lead_dish, "move": move_dish, "turn": turn_dish, "grow": grow_dish,
    "mirror": mirror_dish, "see": see_dish, "mark": mark_stone, "watch": watch_place, "let": let_watch,
}
DEED_LENGTHS = {
    "dish": 3, "drop": 2, "lead": 3, "move": 3, "turn": 3, "grow": 3, "mirror": 2, "see": 3, "mark": 4, "watch": 4,
    "let": 2,
}


def must_be_deed(deed):
    if len(deed) == 0:
        raise BadDeed(None)
    if DEED_LENGTHS.get(deed[0]) != len(deed):
        raise BadDeed(deed[0])


def behind(stand, deed):
    """How a bench that stood so stands behind a deed."""
    word, *things = deed
    act = DEEDS[word]
    return act(stand, *things)


def still_found(kept, before, after):
    """Of the stones kept for watches those whose watch and dish's stones are the same as before."""
    told = {}
    for name in kept:
        watch = before.watching[name]
        if after.watching.get(name) == watch and same_stones(before.dishes[watch[0]], after.dishes[watch[0]]):
            told[name] = kept[name]
    return told


class Bench:
    """Dishes, marks and watches, with the steps to take back and to do again, and the stones found for watches."""

    def __init__(self):
        self.stand = Stand({}, {}, {})
        self.past = []
        self.ahead = []
        # The stones themselves, not their calls: these turn where a dish is led.
        self.kept = {}
        self.reckonings = 0

    def go_to(self, stand):
        self.kept = still_found(self.kept, self.stand, stand)
        self.stand = stand

    def step_through(self, stands):
        """One step, behind each deed of which the bench stands in turn as told."""
        self.past.append(self.stand)
        self.ahead = []
        for stand in stands:
            self.go_to(stand)

    def do(self, deed):
        self.all_of([deed])

    def all_of(self, deeds):
        for deed in deeds:
            must_be_deed(deed)
        # All are reckoned first, so that a refusal leaves the bench as it was.
        stands = []
        stand = self.stand
        for deed in deeds:
            stand = behind(stand, deed)
            stands.append(stand)
        self.step_through(stands)

    def dish(self, name, discs):
        self.do(("dish", name, discs))

    def drop(self, name):
        self.do(("drop", name))

    def lead(self, name, word):
        self.do(("lead", name, word))

    def move(self, name, by):
        self.do(("move", name, by))

    def turn(self, name, by):
        self.do(("turn", name, by))

    def grow(self, name, times_of):
        self.do(("grow", name, times_of))

    def mirror(self, name):
        self.do(("mirror", name))

    def see(self, name, place, *, most=MOST_SWAPS):
        self.step_through([see_dish(self.stand, name, place, most=most)])

    def mark(self, name, call, number=1):
        self.do(("mark", name, call, number))

    def watch(self, name, dish, place):
        self.do(("watch", name, dish, place))

    def let(self, name):
        self.do(("let", name))

    def undo(self):
        if self.past == []:
            raise NothingLeft()
        self.ahead.append(self.stand)
        self.go_to(self.past.pop())

    def redo(self):
        if self.ahead == []:
            raise NothingLeft()
        self.past.append(self.stand)
        self.go_to(self.ahead.pop())

    def names(self):
        return sorted(self.stand.dishes)

    def watches(self):
        return sorted(self.stand.watching)

    def told(self, name):
        return dish_of(self.stand, name)

    def marks(self, name):
        dish_of(self.stand, name)
        marks = self.stand.marked[name]
        return [(call, marks[call]) for call in sorted(marks, key=call_key)]

    def load(self, name, word=""):
        marks = self.marks(name)
        must_be_word(word)
        # No great letter begins with a word but the empty one.
        return sum([number for call, number in marks if call.startswith(word)])

    def watched(self, name):
        return watch_of(self.stand, name)

    def found(self, name, *, most=MOST_SWAPS):
        dish_name, place = watch_of(self.stand, name)
        dish = self.stand.dishes[dish_name]
        if name not in self.kept:
            self.kept[name] = stone_behind(dish.seats(), find(dish, place, most=most))
            self.reckonings += 1
        return call_of(dish, self.kept[name])

    def reckoned(self):
        return self.reckonings

    def held(self):
        return sorted(self.kept)

    def steps(self):
        return (len(self.past), len(self.ahead))

    def twin(self):
        other = Bench()
        other.stand = self.stand
        other.past = list(self.past)
        other.ahead = list(self.ahead)
        other.kept = dict(self.kept)
        other.reckonings = self.reckonings
        return other

    def __eq__(self, other):
        return (
            isinstance(other, Bench)
            and self.stand.dishes == other.stand.dishes
            and self.stand.marked == other.stand.marked
            and self.stand.watching == other.stand.watching
        )

    def __len__(self):
        return len(self.stand.dishes)
