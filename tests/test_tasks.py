"""Points 40 to 42: tasks, edits and what mends a task."""

import copy
import itertools
import random
import unittest

from savedseats import errors
from savedseats.lots import Lot
from savedseats.prices import Prices
from savedseats.tasks import Task, edited, mending
from savedseats.webs import Web
from support import (
    DIAMOND, POINT, SeatCase, all_lots, chain, cost_of, drawn_lot, drawn_prices, drawn_web, large_web, least_of,
)

PRICES = Prices(DIAMOND, [5, 5, 1, 1, 3, 3], [5, 5, 1, 1, 3, 3])
OTHER = Web(4, [(0, 1), (1, 3), (2, 3), (0, 2)], 0, [3])
SEATS = {"b": [2], "a": [1]}


def even(web, price):
    """The same price everywhere."""
    return Prices(web, [price] * web.gates, [price] * web.gates)


def total_of(web, seats, prices):
    """The total of seats, by trying all lots; seats is a dict from names to sets."""
    costs = [least_of(cost_of(web, lot, prices) for lot in all_lots(web, Lot(uses))) for uses in seats.values()]
    return None if None in costs else sum(costs)


def drawn_task(rng, web, seats, greatest=3, barred=0):
    """A drawn task with so many seats."""
    names = rng.sample(["a", "b", "c", "seat", "z", "longname"], seats)
    return Task(web, {name: drawn_lot(rng, web, min(2, web.places)) for name in names},
                drawn_prices(rng, web, greatest, barred))


def drawn_edit(rng, task):
    """A drawn edit of a task."""
    kind = rng.choice(("use", "free", "price", "price"))
    if kind == "price":
        price = rng.choice((None, 0, 0, 1, 2, 5))
        return (kind, rng.randrange(task.web.gates), rng.choice(("save", "back")), price)
    return (kind, rng.choice(sorted(task.seats)), rng.randrange(task.web.places))


def done(web, seats, prices, edits):
    """Seats and prices behind some edits, from the text of the document."""
    seats = {name: set(uses) for name, uses in seats.items()}
    saves, backs = list(prices.saves), list(prices.backs)
    for edit in edits:
        if edit[0] == "use":
            seats[edit[1]].add(edit[2])
        elif edit[0] == "free":
            seats[edit[1]].discard(edit[2])
        else:
            (saves if edit[2] == "save" else backs)[edit[1]] = edit[3]
    return seats, Prices(web, saves, backs)


def clash(first, second):
    """Whether a set with both edits does not count."""
    if first[0] == second[0] == "price":
        return first[1:3] == second[1:3]
    return {first[0], second[0]} == {"use", "free"} and first[1:] == second[1:]


def mends(task, menu, bound):
    """What mending is to return, by trying all sets."""
    within = set()
    sets = [row for size in range(len(menu) + 1) for row in itertools.combinations(range(len(menu)), size)]
    for row in sets:
        seats, prices = done(task.web, task.seats, task.prices, [menu[number] for number in row])
        total = total_of(task.web, seats, prices)
        if total is not None and total <= bound:
            within.add(row)
    found = []
    for row in sets:
        clashing = any(clash(menu[first], menu[second]) for first, second in itertools.combinations(row, 2))
        smaller = any(set(other) < set(row) for other in within)
        if row in within and not clashing and not smaller:
            found.append(row)
    return tuple(found)


class TestTask(SeatCase):
    def test_attributes(self):
        task = Task(DIAMOND, SEATS, PRICES)
        self.assertEqual(sorted(vars(task)), ["prices", "seats", "web"])
        self.assertEqual((task.web, task.prices), (DIAMOND, PRICES))
        self.assertIs(task.seats.__class__, dict)
        self.assertEqual(task.seats, {"a": Lot([1]), "b": Lot([2])})
        self.assertTrue(all(uses.__class__ is Lot for uses in task.seats.values()))

    def test_uses_as_lists_tuples_and_lots(self):
        for places in ([2, 0, 2], (0, 2, 2), Lot([0, 2]), [0, 2], (2, 0)):
            self.assertEqual(Task(DIAMOND, {"a": places}, PRICES).uses("a"), Lot([0, 2]))
        for places in ([], (), Lot([])):
            self.assertEqual(Task(DIAMOND, {"a": places}, PRICES).uses("a"), Lot([]))
        seats = {"a": [0], "b": (1,), "c": Lot([2]), "d": []}
        told = {"a": Lot([0]), "b": Lot([1]), "c": Lot([2]), "d": Lot([])}
        self.assertEqual(Task(DIAMOND, seats, PRICES).seats, told)

    def test_equality(self):
        task = Task(DIAMOND, SEATS, PRICES)
        self.assertEqual(task, Task(DIAMOND, {"a": (1,), "b": Lot([2])}, PRICES))
        self.assertEqual(task, Task(Web(4, list(DIAMOND.edges), 0, (3,)), SEATS, PRICES.with_price(0, "save", 5)))
        self.assertFalse(task != Task(DIAMOND, SEATS, PRICES))
        for other in (
            Task(DIAMOND, {"a": [1]}, PRICES), Task(DIAMOND, {"a": [1], "c": [2]}, PRICES),
            Task(DIAMOND, {"a": [2], "b": [1]}, PRICES), Task(DIAMOND, SEATS, PRICES.with_price(0, "save", 6)),
            Task(OTHER, SEATS, even(OTHER, 1)), Task(DIAMOND, {**SEATS, "c": []}, PRICES), None, SEATS, 5, "task",
        ):
            self.assertFalse(task == other)
            self.assertTrue(task != other)
        even_ones = [Task(web, {"a": [0]}, even(web, 1)) for web in (DIAMOND, OTHER)]
        self.assertNotEqual(*even_ones)

    def test_numbers_of_seats(self):
        names = ["a", "b", "c", "d", "e"]
        for count in (1, 2, 3, 4):
            seats = {name: [0] for name in names[:count]}
            self.assertEqual(len(Task(DIAMOND, seats, PRICES).seats), count)
        self.raises(errors.BadSeats, 0, Task, DIAMOND, {}, PRICES)
        self.raises(errors.BadSeats, 5, Task, DIAMOND, {name: [0] for name in names}, PRICES)

    def test_names(self):
        for name in ("a", "z", "abcdefgh", "zzzzzzzz", "use", "price"):
            self.assertEqual(Task(DIAMOND, {name: [1]}, PRICES).uses(name), Lot([1]))
        for name in (
            "", "abcdefghi", "A", "aB", "Ab", "a1", "1", "a b", " a", "a ", "a-b", "a_b", "_", "a.", "\u00e4", "a\n", "\n",
            "\u0430", "abcdefgH", "`", "{", "@", "[",
        ):
            self.raises(errors.BadName, name, Task, DIAMOND, {name: [1]}, PRICES)

    def test_the_least_bad_name(self):
        self.raises(errors.BadName, "A", Task, DIAMOND, {"b": [0], "z1": [1], "A": [2], "B": [3]}, PRICES)
        self.raises(errors.BadName, "", Task, DIAMOND, {"B": [0], "": [1], "A": [2], "a": [3]}, PRICES)
        self.raises(errors.BadName, "b1", Task, DIAMOND, {"c1": [0], "b1": [1], "a": [3]}, PRICES)

    def test_what_is_no_name(self):
        for name in (None, 5, ("a",)):
            self.raises(errors.BadName, name, Task, DIAMOND, {name: [1]}, PRICES)

    def test_the_least_bad_place_of_the_first_seat(self):
        self.raises(errors.BadPlace, 4, Task, DIAMOND, {"a": [9, 4, 5, 1]}, PRICES)
        self.raises(errors.BadPlace, -2, Task, DIAMOND, {"a": [9, -1, 0, -2]}, PRICES)
        self.raises(errors.BadPlace, -1, Task, DIAMOND, {"a": (3, 4, -1)}, PRICES)
        self.raises(errors.BadPlace, 4, Task, DIAMOND, {"a": Lot([5, 4])}, PRICES)
        # By name "a" comes ahead of "b", whatever stands first in the dict.
        self.raises(errors.BadPlace, 7, Task, DIAMOND, {"b": [4], "a": [7]}, PRICES)
        self.raises(errors.BadPlace, 5, Task, DIAMOND, {"b": [5], "c": [4], "a": [1]}, PRICES)

    def test_what_is_no_place(self):
        for place in (True, None, "0", (0,)):
            self.raises(errors.BadPlace, place, Task, DIAMOND, {"a": [place]}, PRICES)
            self.raises(errors.BadPlace, place, Task, DIAMOND, {"a": [0, place, 9]}, PRICES)

    def test_order_of_errors(self):
        five = {name: [9] for name in ("A", "b", "c", "d", "e")}
        self.raises(errors.OtherWeb, None, Task, OTHER, five, PRICES)
        self.raises(errors.OtherWeb, None, Task, OTHER, {}, PRICES)
        self.raises(errors.BadSeats, 5, Task, DIAMOND, five, PRICES)
        self.raises(errors.BadName, "Z", Task, DIAMOND, {"a": [9], "Z": [1]}, PRICES)

    def test_no_seat(self):
        task = Task(DIAMOND, SEATS, PRICES)
        for name in ("c", "", "A", "ab"):
            self.raises(errors.NoSeat, name, task.uses, name)

    def test_later_changes_to_arguments_have_no_effect(self):
        seats = {"a": [1], "b": [2]}
        task = Task(DIAMOND, seats, PRICES)
        seats["a"].append(3)
        seats["b"] = [0]
        seats["c"] = [0]
        self.assertEqual(task, Task(DIAMOND, SEATS, PRICES))

    def test_arguments_are_not_changed(self):
        seats = {"b": [2, 0, 2], "a": (1,), "c": Lot([3])}
        kept = copy.deepcopy(seats)
        task = Task(DIAMOND, seats, PRICES)
        task.total()
        task.uses("b")
        edited(task, ("use", "b", 3))
        self.assertEqual(seats, kept)
        self.assertEqual(list(seats), ["b", "a", "c"])


class TestTotal(SeatCase):
    def test_totals(self):
        self.assertEqual(Task(DIAMOND, {"a": [1]}, PRICES).total(), 6)
        self.assertEqual(Task(DIAMOND, SEATS, PRICES).total(), 6 + 2)
        self.assertEqual(Task(DIAMOND, {"a": [], "b": []}, PRICES).total(), 0)
        self.assertEqual(Task(DIAMOND, {name: [1] for name in "abcd"}, PRICES).total(), 24)
        # Seats pay each for themselves, also where their uses are the same.
        self.assertEqual(Task(DIAMOND, {"a": [2], "b": [2]}, PRICES).total(), 4)

    def test_none(self):
        barred = even(DIAMOND, None)
        self.assertIsNone(Task(DIAMOND, {"a": [1]}, barred).total())
        self.assertIsNone(Task(DIAMOND, {"a": [], "b": [1]}, barred).total())
        self.assertIsNone(Task(DIAMOND, {"a": [1], "b": []}, barred).total())
        self.assertEqual(Task(DIAMOND, {"a": [], "b": []}, barred).total(), 0)

    def test_drawn_tasks_by_trying_all_lots(self):
        rng = random.Random(40)
        found = []
        for _ in range(150):
            web = drawn_web(rng, rng.randint(1, 5), 9)
            task = drawn_task(rng, web, rng.randint(1, 4), 4, rng.choice((0, 0.2, 0.4)))
            found.append(task.total())
            self.assertEqual(found[-1], total_of(web, task.seats, task.prices))
        self.assertTrue({None, 0} < set(found))
        self.assertGreater(len(set(found)), 10)

    def test_webs_of_24_places(self):
        rng = random.Random(400)
        for _ in range(5):
            web = large_web(rng)
            task = drawn_task(rng, web, 4, 1000)
            alone = [Task(web, {name: task.uses(name)}, task.prices).total() for name in task.seats]
            self.assertEqual(task.total(), sum(alone))


class TestEdited(SeatCase):
    TASK = Task(DIAMOND, SEATS, PRICES)

    def test_use_and_free(self):
        self.assertEqual(edited(self.TASK, ("use", "a", 3)), Task(DIAMOND, {"a": [1, 3], "b": [2]}, PRICES))
        self.assertEqual(edited(self.TASK, ("free", "a", 1)), Task(DIAMOND, {"a": [], "b": [2]}, PRICES))
        self.assertEqual(edited(self.TASK, ("use", "b", 0)), Task(DIAMOND, {"a": [1], "b": [0, 2]}, PRICES))

    def test_what_changes_nothing(self):
        for edit in (("use", "a", 1), ("free", "a", 2), ("free", "b", 0), ("price", 4, "back", 3)):
            told = edited(self.TASK, edit)
            self.assertEqual(told, self.TASK)
            self.assertIs(told.__class__, Task)

    def test_prices(self):
        for price in (0, 100000, None):
            for word in ("save", "back"):
                told = edited(self.TASK, ("price", 2, word, price))
                self.assertEqual(told, Task(DIAMOND, SEATS, PRICES.with_price(2, word, price)))

    def test_lists(self):
        self.assertEqual(edited(self.TASK, ["use", "a", 3]), edited(self.TASK, ("use", "a", 3)))
        self.assertEqual(edited(self.TASK, ["price", 0, "save", 9]), edited(self.TASK, ("price", 0, "save", 9)))

    def test_bad_edits(self):
        for edit in (
            (), ("use",), ("use", "a"), ("use", "a", 1, 1), ("free",), ("free", "a"), ("free", "a", 1, 1), ("price",),
            ("price", 0), ("price", 0, "save"), ("price", 0, "save", 1, 1), ("set", "a", [1]), ("edit", ("use", "a", 1)),
            ("undo",), ("USE", "a", 1), ("Free", "a", 1), ("", "a", 1), (None, "a", 1), (0, "a", 1), (-1,), (5, 6, 7, 8),
            (("use",), "a", 1), ("uses", "a", 1), ("us", "a", 1), ("pric", 0, "save", 1), ("use", "a", 1, "save"),
            ("price", "a", 1), ("use", "zz"), ("price", 99, "save"), (True, "a", 1),
        ):
            self.raises(errors.BadEdit, edit, edited, self.TASK, edit)
            with self.assertRaises(errors.BadEdit) as caught:
                edited(self.TASK, list(edit))
            self.assertIs(caught.exception.change.__class__, tuple)
            self.assertEqual(caught.exception.change, edit)

    def test_what_is_no_tuple(self):
        for edit in (None, 5, "", "use", True):
            self.raises(errors.BadEdit, edit, edited, self.TASK, edit)

    def test_no_seat_then_bad_place(self):
        for word in ("use", "free"):
            self.raises(errors.NoSeat, "c", edited, self.TASK, (word, "c", 9))
            self.raises(errors.NoSeat, "", edited, self.TASK, (word, "", 1))
            for place in (4, -1, 10 ** 9, None, True, "1"):
                self.raises(errors.BadPlace, place, edited, self.TASK, (word, "a", place))

    def test_no_gate_then_bad_word_then_bad_price(self):
        for gate in (6, -1, None, "0", True):
            self.raises(errors.NoGate, gate, edited, self.TASK, ("price", gate, "pay", -1))
        for word in ("", "Save", "saves", None, 0):
            self.raises(errors.BadWord, word, edited, self.TASK, ("price", 2, word, -1))
        for price in (-1, 100001, True, "1", ()):
            self.raises(errors.BadPrice, 2, edited, self.TASK, ("price", 2, "save", price))
            self.raises(errors.BadPrice, 5, edited, self.TASK, ("price", 5, "back", price))

    def test_drawn_edits(self):
        rng = random.Random(41)
        for _ in range(200):
            web = drawn_web(rng, rng.randint(1, 5), 9)
            task = drawn_task(rng, web, rng.randint(1, 4), 4, 0.1)
            edit = drawn_edit(rng, task)
            seats, prices = done(web, task.seats, task.prices, [edit])
            self.assertEqual(edited(task, edit), Task(web, {name: list(seats[name]) for name in seats}, prices))

    def test_the_task_and_the_edit_are_not_changed(self):
        task = Task(DIAMOND, SEATS, PRICES)
        for edit in (["use", "a", 3], ["free", "a", 1], ["price", 0, "save", 9], ["use", "a", 9], ["no"]):
            kept = list(edit)
            try:
                edited(task, edit)
            except errors.SeatError:
                pass
            self.assertEqual(edit, kept)
            self.assertEqual(task, self.TASK)
        told = edited(task, ("use", "a", 1))
        told.seats["a"] = Lot([])
        told.seats["d"] = Lot([])
        self.assertEqual(task, self.TASK)


class TestMending(SeatCase):
    # The seat costs 6.
    TASK = Task(DIAMOND, {"a": [1]}, PRICES)

    def test_menus_of_0_edits(self):
        for bound, told in ((5, ()), (6, ((),)), (7, ((),)), (-1, ())):
            self.assertEqual(mending(self.TASK, (), bound), told)
            self.assertEqual(mending(self.TASK, [], bound), told)
        self.assertEqual(mending(Task(POINT, {"a": [0]}, even(POINT, None)), (), 10 ** 9), ())

    def test_the_total_itself_and_one_below_it(self):
        menu = (("price", 4, "save", 2), ("free", "a", 1), ("use", "a", 0))
        self.assertEqual(mending(self.TASK, menu, 6), ((),))
        self.assertEqual(mending(self.TASK, menu, 5), ((0,), (1,)))
        self.assertEqual(mending(self.TASK, menu, 4), ((1,),))
        self.assertEqual(mending(self.TASK, menu, 0), ((1,),))
        self.assertEqual(mending(self.TASK, menu, -1), ())

    def test_tuples_of_tuples(self):
        told = mending(self.TASK, [["price", 4, "save", 2], ["free", "a", 1]], 5)
        self.assertEqual(told, ((0,), (1,)))
        self.assertIs(told.__class__, tuple)
        self.assertTrue(all(row.__class__ is tuple for row in told))

    def test_bounds_below_0(self):
        self.assertEqual(mending(self.TASK, (("free", "a", 1),), -1), ())
        self.assertEqual(mending(Task(DIAMOND, {"a": []}, PRICES), (), -10 ** 30), ())

    def test_by_size_and_then_ascending(self):
        # Each of the first two prices takes 1 off the total of 6, the last edit takes off all of it.
        menu = (
            ("price", 4, "save", 2), ("price", 5, "back", 2), ("use", "b", 1), ("price", 0, "save", 4), ("free", "a", 1),
        )
        task = Task(DIAMOND, {"a": [1], "b": []}, PRICES)
        self.assertEqual(mending(task, menu, 4), ((4,), (0, 1)))
        self.assertEqual(mending(task, menu, 5), ((0,), (1,), (4,)))
        web = chain(2)
        task = Task(web, {"a": [0], "b": [1], "c": []}, even(web, 1))
        menu = [("free", "a", 0), ("free", "b", 1), ("price", 0, "back", 0), ("price", 0, "save", 0), ("use", "c", 0)]
        for bound in range(-1, 6):
            self.assertEqual(mending(task, menu, bound), mends(task, menu, bound))

    def test_sets_of_different_sizes_mend(self):
        # The first edit is enough alone, the two prices are enough together.
        menu = (("free", "a", 1), ("price", 4, "save", 1), ("price", 5, "back", 1), ("use", "a", 2))
        self.assertEqual(mending(self.TASK, menu, 2), ((0,), (1, 2)))

    def test_a_total_of_none(self):
        web = chain(3)
        task = Task(web, {"a": [1]}, even(web, None))
        menu = (("price", 0, "save", 1), ("price", 1, "back", 2), ("free", "a", 1))
        self.assertEqual(mending(task, menu, 10 ** 9), ((2,), (0, 1)))
        self.assertEqual(mending(task, menu, 2), ((2,),))
        self.assertEqual(mending(self.TASK, (("price", 4, "save", None),), 100), ((),))

    def test_sets_that_clash_do_not_count(self):
        # Of two prices at one gate by one word the last one would be taken.
        menu = (("price", 4, "save", 2), ("price", 4, "save", 1), ("price", 5, "back", 1))
        self.assertEqual(mending(self.TASK, menu, 4), ((1,), (2,)))
        self.assertEqual(mending(self.TASK, menu, 3), ((0, 2), (1, 2)))
        self.assertEqual(mending(self.TASK, menu, 2), ((1, 2),))
        self.assertEqual(mending(self.TASK, menu, 1), ())
        menu = (("use", "a", 1), ("free", "a", 1), ("price", 4, "save", 2))
        self.assertEqual(mending(self.TASK, menu, 5), ((1,), (2,)))
        task = Task(DIAMOND, {"a": [1, 2], "b": [1]}, even(DIAMOND, 1).with_price(4, "save", 50))
        menu = (("free", "a", 1), ("use", "a", 1), ("free", "b", 1), ("use", "b", 2), ("free", "b", 2))
        for bound in range(-1, 12):
            self.assertEqual(mending(task, menu, bound), mends(task, menu, bound))

    def test_what_does_not_clash(self):
        # Unlike gates, words, names and places.
        web = chain(3)
        task = Task(web, {"a": [1], "b": [1, 2]}, even(web, None))
        menu = (
            ("price", 0, "save", 0), ("price", 0, "back", 0), ("price", 1, "back", 0), ("use", "a", 2),
            ("free", "b", 2), ("free", "a", 1),
        )
        self.assertEqual(mends(task, menu, 0), ((0, 2, 4),))
        self.assertEqual(mending(task, menu, 0), ((0, 2, 4),))

    def test_edits_are_done_in_the_order_of_the_menu(self):
        menu = (("free", "a", 1), ("use", "b", 1), ("free", "b", 1))
        task = Task(DIAMOND, {"a": [1], "b": []}, PRICES)
        self.assertEqual(mending(task, menu, 0), ((0,),))
        self.assertEqual(mending(task, menu[1:], 6), ((),))

    def test_bad_menus(self):
        edits = [("price", 0, "save", price) for price in range(7)]
        self.assertEqual(mending(self.TASK, edits[:6], 6), ((),))
        self.raises(errors.BadMenu, 7, mending, self.TASK, edits, 6)
        self.raises(errors.BadMenu, 7, mending, self.TASK, [("no",)] * 7, 6)
        self.raises(errors.BadMenu, 8, mending, self.TASK, tuple(edits[:1] * 8), 6)

    def test_the_first_wrong_edit(self):
        good = ("use", "a", 2)
        self.raises(errors.BadEdit, ("no",), mending, self.TASK, (good, ["no"], ("use", "c", 9)), 6)
        self.raises(errors.NoSeat, "c", mending, self.TASK, (good, ("use", "c", 9), ("no",)), 6)
        self.raises(errors.BadPlace, 9, mending, self.TASK, (("free", "a", 9), good, ("no",)), 6)
        self.raises(errors.NoGate, 6, mending, self.TASK, (good, ("price", 6, "pay", -1)), 6)
        self.raises(errors.BadWord, "pay", mending, self.TASK, (("price", 5, "pay", -1),), 6)
        self.raises(errors.BadPrice, 5, mending, self.TASK, (("price", 5, "save", -1),), -5)

    def test_equal_edits(self):
        good, other = ("use", "a", 2), ("price", 0, "save", None)
        self.raises(errors.TwiceInMenu, 1, mending, self.TASK, (good, good), 6)
        self.raises(errors.TwiceInMenu, 2, mending, self.TASK, (other, good, other, good), 6)
        self.raises(errors.TwiceInMenu, 3, mending, self.TASK, (other, good, ("free", "a", 2), list(good)), 6)
        self.raises(errors.TwiceInMenu, 1, mending, self.TASK, (list(other), other), 6)
        # The errors of the edits come first, also behind the equal one.
        self.raises(errors.BadEdit, ("no",), mending, self.TASK, (good, good, ("no",)), 6)
        self.raises(errors.BadEdit, ("no",), mending, self.TASK, (("no",), ("no",)), 6)

    def test_drawn_menus_by_trying_all_sets(self):
        rng = random.Random(42)
        sizes, counts = set(), set()
        for _ in range(120):
            web = drawn_web(rng, rng.randint(1, 4), 6)
            task = drawn_task(rng, web, rng.randint(1, 3), 4, rng.choice((0, 0.2)))
            menu = []
            for _ in range(rng.choice((1, 3, 4, 5))):
                edit = drawn_edit(rng, task)
                if edit not in menu:
                    menu.append(edit)
            total = task.total()
            bounds = [-1, 0, 1, 2, 4] + ([total, total - 1, total // 2] if total is not None else [])
            bound = rng.choice(bounds)
            told = mending(task, menu, bound)
            self.assertEqual(told, mends(task, menu, bound))
            sizes.update(len(row) for row in told)
            counts.add(len(told))
        self.assertTrue({0, 1, 2} <= sizes)
        self.assertTrue({0, 1, 2} <= counts)

    def test_a_menu_of_6_edits_by_trying_all_sets(self):
        rng = random.Random(43)
        for _ in range(10):
            web = drawn_web(rng, 3, 5)
            task = drawn_task(rng, web, 2, 4, 0.1)
            menu = []
            while len(menu) < 6:
                edit = drawn_edit(rng, task)
                if edit not in menu:
                    menu.append(edit)
            for bound in (0, 1, 3):
                self.assertEqual(mending(task, menu, bound), mends(task, menu, bound))

    def test_arguments_are_not_changed(self):
        task = Task(DIAMOND, SEATS, PRICES)
        menu = [["price", 4, "save", 2], ["free", "a", 1], ["use", "b", 3]]
        kept = copy.deepcopy((task, menu))
        mending(task, menu, 5)
        self.assertEqual((task, menu), kept)
        menu.append(menu[0])
        with self.assertRaises(errors.TwiceInMenu):
            mending(task, menu, 5)
        self.assertEqual((task, menu[:3]), kept)


if __name__ == "__main__":
    unittest.main()
