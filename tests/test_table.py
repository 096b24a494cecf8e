"""Points 43 to 45: the table."""

import copy
import random
import unittest

from savedseats import errors
from savedseats.lots import Lot
from savedseats.prices import Prices
from savedseats.table import Table, preview, run_deeds
from savedseats.tasks import Task, edited
from savedseats.webs import Web
from support import (
    DIAMOND, SeatCase, all_lots, chain, cost_of, drawn_lot, drawn_prices, drawn_web, large_web, least_of,
)

PRICES = Prices(DIAMOND, [5, 5, 1, 1, 3, 3], [5, 5, 1, 1, 3, 3])
TASK = Task(DIAMOND, {"b": [2], "a": [1]}, PRICES)
# Deeds of no known form.
NO_DEEDS = (
    (), ("set",), ("set", "a"), ("set", "a", [1], [2]), ("edit",), ("edit", ("use", "a", 1), 1), ("undo", 1), ("undo", ()),
    ("SET", "a", []), ("Undo",), ("",), ("redo",), ("use", "a", 1), ("price", 0, "save", 1), (None,), (0,), (0, 1),
    (None, "a", []), (("undo",),), ("edi", ("use", "a", 1)), ("undo", "a", []), ("edit", "a", []), ("set", ("use", "a", 1)),
    ("total",), (True,), ("set", "zz"), ("edit", ("no",), ("no",)),
)


def even(web, price):
    """The same price everywhere."""
    return Prices(web, [price] * web.gates, [price] * web.gates)


def greatest_best(web, uses, prices):
    """The greatest best lot, by trying all; None if there is none."""
    costs = {lot.places: cost_of(web, lot, prices) for lot in all_lots(web, uses)}
    least = least_of(costs.values())
    best = [set(places) for places, worth in costs.items() if worth is not None and worth == least]
    return Lot(sorted(set().union(*best))) if best else None


def state(table):
    """All that can be told of a table, undone to its start at a copy."""
    other = copy.deepcopy(table)
    told = [(other.task, other.deeds)]
    while other.undo():
        told.append((other.task, other.deeds))
    return told


class TestTable(SeatCase):
    def test_a_new_table(self):
        table = Table(TASK)
        self.assertEqual((table.task, table.deeds), (TASK, 0))
        self.assertEqual((table["a"], table["b"]), (Lot([1]), Lot([2])))
        self.assertIs(table["a"].__class__, Lot)
        self.assertEqual(table.total(), TASK.total())
        self.assertNotIn("start", vars(table))

    def test_settings(self):
        for places in ([3, 0], (0, 3, 3), Lot([0, 3])):
            table = Table(TASK)
            table["a"] = places
            self.assertEqual(table["a"], Lot([0, 3]))
            self.assertEqual(table.task, Task(DIAMOND, {"a": [0, 3], "b": [2]}, PRICES))
            self.assertEqual(table.deeds, 1)
        table["b"] = []
        self.assertEqual((table["b"], table["a"], table.deeds), (Lot([]), Lot([0, 3]), 2))

    def test_edits(self):
        table = Table(TASK)
        for count, change in enumerate((("use", "a", 3), ["free", "b", 2], ("price", 0, "back", None)), 1):
            told = edited(table.task, change)
            self.assertIsNone(table.edit(change))
            self.assertEqual((table.task, table.deeds), (told, count))

    def test_what_changes_nothing_counts(self):
        table = Table(TASK)
        table["a"] = [1]
        self.assertEqual(table.deeds, 1)
        table.edit(("use", "a", 1))
        table.edit(("free", "a", 2))
        table.edit(("price", 0, "save", 5))
        self.assertEqual((table.deeds, table.task), (4, TASK))
        table["a"] = [0]
        for count in (4, 3, 2, 1, 0):
            self.assertIs(table.undo(), True)
            self.assertEqual((table.deeds, table.task), (count, TASK))
        self.assertIs(table.undo(), False)

    def test_undo(self):
        table = Table(TASK)
        self.assertIs(table.undo(), False)
        self.assertEqual((table.deeds, table.task), (0, TASK))
        table["a"] = [3]
        table.edit(("price", 0, "save", 7))
        self.assertIs(table.undo(), True)
        self.assertEqual((table["a"], table.task.prices, table.deeds), (Lot([3]), PRICES, 1))
        table["b"] = [0]
        self.assertIs(table.undo(), True)
        self.assertIs(table.undo(), True)
        self.assertEqual((table.task, table.deeds), (TASK, 0))
        self.assertIs(table.undo(), False)

    def test_no_seat(self):
        table = Table(TASK)
        for name in ("c", "", "A", "ab"):
            self.raises(errors.NoSeat, name, table.__getitem__, name)
            self.raises(errors.NoSeat, name, table.__setitem__, name, [9])
        self.assertEqual(state(table), [(TASK, 0)])

    def test_bad_place(self):
        table = Table(TASK)
        for places, least in (
            ([9, 4, 5, 1], 4), ((4,), 4), (Lot([6, 5]), 5), ([-1], -1), ([9, -1, 0, -3], -3), ((3, 4, -1), -1),
        ):
            self.raises(errors.BadPlace, least, table.__setitem__, "a", places)
        self.assertEqual(state(table), [(TASK, 0)])

    def test_errors_of_edits(self):
        table = Table(TASK)
        table["a"] = [3]
        kept = state(table)
        for error, value, change in (
            (errors.BadEdit, ("no",), ["no"]), (errors.NoSeat, "c", ("use", "c", 9)), (errors.BadPlace, 4, ("free", "a", 4)),
            (errors.BadPlace, -1, ("use", "a", -1)), (errors.NoGate, 6, ("price", 6, "pay", -1)),
            (errors.BadWord, "pay", ("price", 0, "pay", -1)), (errors.BadPrice, 0, ("price", 0, "save", -1)),
        ):
            self.raises(error, value, table.edit, change)
            self.assertEqual(state(table), kept)

    def test_not_iterated_over(self):
        with self.assertRaises(TypeError):
            iter(Table(TASK))

    def test_later_changes_have_no_effect(self):
        task = Task(DIAMOND, {"b": [2], "a": [1]}, PRICES)
        table = Table(task)
        task.seats["a"] = Lot([0])
        task.seats["c"] = Lot([0])
        del task.seats["b"]
        self.assertEqual(table.task, TASK)
        places = [3]
        table["a"] = places
        places.append(0)
        change = ["use", "b", 3]
        table.edit(change)
        change[2] = 0
        self.assertEqual((table["a"], table["b"]), (Lot([3]), Lot([2, 3])))
        now = table.task
        now.seats["a"] = Lot([])
        now.seats["c"] = Lot([])
        del now.seats["b"]
        self.assertEqual(table.task, Task(DIAMOND, {"a": [3], "b": [2, 3]}, PRICES))
        self.assertIs(table.undo(), True)
        self.assertIs(table.undo(), True)
        self.assertEqual(table.task, TASK)

    def test_task_is_a_new_object(self):
        table = Table(TASK)
        self.assertIsNot(table.task, TASK)
        self.assertIsNot(table.task, table.task)
        self.assertIsNot(table.task.seats, table.task.seats)
        self.assertEqual(table.task, table.task)

    def test_the_task_that_is_passed_is_not_changed(self):
        task = copy.deepcopy(TASK)
        table = Table(task)
        places, change = [3, 0, 3], ["use", "b", 3]
        table["a"] = places
        table.edit(change)
        table.undo()
        self.assertEqual((task, places, change), (TASK, [3, 0, 3], ["use", "b", 3]))

    def test_drawn_settings_edits_and_undos(self):
        rng = random.Random(43)
        for _ in range(60):
            web = drawn_web(rng, rng.randint(1, 5), 9)
            task = Task(web, {"a": drawn_lot(rng, web), "b": []}, drawn_prices(rng, web, 5, 0.1))
            table, past = Table(task), [task]
            for _ in range(12):
                kind, name = rng.choice(("set", "use", "free", "price", "undo")), rng.choice("ab")
                now = past[-1]
                if kind == "undo":
                    self.assertIs(table.undo(), len(past) > 1)
                    past = past[:-1] or past
                elif kind == "set":
                    places = drawn_lot(rng, web)
                    table[name] = list(places)
                    past.append(Task(web, {**now.seats, name: places}, now.prices))
                else:
                    change = (kind, name, rng.randrange(web.places))
                    if kind == "price":
                        word = rng.choice(("save", "back"))
                        change = (kind, rng.randrange(web.gates), word, rng.choice((None, 0, 3)))
                    table.edit(change)
                    past.append(edited(now, change))
                self.assertEqual((table.task, table.deeds), (past[-1], len(past) - 1))
                self.assertEqual([table["a"], table["b"]], [past[-1].uses("a"), past[-1].uses("b")])


class TestTotalAndLots(SeatCase):
    def test_total(self):
        table = Table(TASK)
        self.assertEqual(table.total(), 8)
        table["b"] = []
        self.assertEqual(table.total(), 6)
        table.edit(("price", 4, "save", None))
        # Now the lot of 1 and 3 is best for a.
        self.assertEqual(table.total(), 5 + 1 + 3)
        table.edit(("price", 0, "save", None))
        self.assertIsNone(table.total())
        table.undo()
        self.assertEqual(table.total(), 9)

    def test_lots(self):
        table = Table(TASK)
        self.assertEqual(table.lots(), {"a": Lot(range(4)), "b": Lot([2])})
        self.assertIs(table.lots().__class__, dict)
        table.edit(("price", 0, "save", None))
        table.edit(("price", 4, "save", None))
        self.assertEqual(table.lots(), {"a": None, "b": Lot([2])})
        table["a"] = []
        self.assertEqual(table.lots(), {"a": Lot([]), "b": Lot([2])})

    def test_the_greatest_of_several(self):
        table = Table(Task(chain(5), {"a": [2], "b": []}, even(chain(5), 1)))
        self.assertEqual(table.lots(), {"a": Lot(range(5)), "b": Lot([])})
        table = Table(Task(chain(5), {"a": [2], "b": []}, even(chain(5), 0)))
        self.assertEqual(table.lots(), {"a": Lot(range(5)), "b": Lot(range(5))})

    def test_the_dict_belongs_to_the_caller(self):
        table = Table(TASK)
        told = table.lots()
        told["a"] = None
        told["c"] = Lot([])
        del told["b"]
        self.assertEqual(table.lots(), {"a": Lot(range(4)), "b": Lot([2])})
        self.assertEqual(table.task, TASK)

    def test_drawn_tables_by_trying_all_lots(self):
        rng = random.Random(44)
        found = []
        for _ in range(150):
            web = drawn_web(rng, rng.randint(1, 5), 9)
            seats = {name: drawn_lot(rng, web, min(2, web.places)) for name in rng.sample("abcd", rng.randint(1, 4))}
            prices = drawn_prices(rng, web, rng.choice((0, 1, 5)), rng.choice((0, 0.2, 0.4)))
            table = Table(Task(web, seats, prices))
            lots = {name: greatest_best(web, uses, prices) for name, uses in seats.items()}
            self.assertEqual(table.lots(), lots)
            costs = [None if lot is None else cost_of(web, lot, prices) for lot in lots.values()]
            self.assertEqual(table.total(), None if None in costs else sum(costs))
            found.append(table.total())
        self.assertGreater(found.count(None), 10)
        self.assertGreater(len(set(found)), 5)

    def test_webs_of_24_places(self):
        rng = random.Random(440)
        for _ in range(5):
            web = large_web(rng)
            table = Table(Task(web, {name: drawn_lot(rng, web, 3) for name in "abcd"}, drawn_prices(rng, web, 1000, 0)))
            costs = [cost_of(web, lot, table.task.prices) for lot in table.lots().values()]
            self.assertEqual(table.total(), sum(costs))


class TestRunDeeds(SeatCase):
    def test_deeds(self):
        table = Table(TASK)
        deeds = [("set", "a", [3]), ("edit", ("use", "a", 0)), ["edit", ["price", 0, "save", 9]], ("undo",), ["undo"]]
        for count, told in ((0, TASK), (1, Task(DIAMOND, {"a": [3], "b": [2]}, PRICES))):
            other = Table(TASK)
            self.assertIsNone(run_deeds(other, deeds[:count]))
            self.assertEqual((other.task, other.deeds), (told, count))
        self.assertIsNone(run_deeds(table, tuple(deeds[:3])))
        now = Task(DIAMOND, {"a": [0, 3], "b": [2]}, PRICES.with_price(0, "save", 9))
        self.assertEqual((table.task, table.deeds), (now, 3))
        run_deeds(table, deeds[3:])
        self.assertEqual((table.task, table.deeds), (Task(DIAMOND, {"a": [3], "b": [2]}, PRICES), 1))
        run_deeds(table, [("undo",)] * 3)
        self.assertEqual((table.task, table.deeds), (TASK, 0))

    def test_places_of_all_kinds(self):
        for places in ([3, 0], (0, 3), Lot([0, 3])):
            table = Table(TASK)
            run_deeds(table, [("set", "a", places)])
            self.assertEqual(table["a"], Lot([0, 3]))

    def test_undo_takes_back_what_was_ahead(self):
        table = Table(TASK)
        table["a"] = [3]
        run_deeds(table, [("undo",), ("undo",), ("set", "b", [])])
        self.assertEqual((table.task, table.deeds), (Task(DIAMOND, {"a": [1], "b": []}, PRICES), 1))

    def test_bad_deeds(self):
        for deed in NO_DEEDS:
            for passed in (deed, list(deed)):
                table = Table(TASK)
                self.raises(errors.BadDeed, 0, run_deeds, table, [passed])
                self.assertEqual((table.task, table.deeds), (TASK, 0))
                self.raises(errors.BadDeed, 2, run_deeds, table, [("set", "a", [3]), ("edit", ("use", "b", 0)), passed])
                # The deeds before it stay done.
                told = Task(DIAMOND, {"a": [3], "b": [0, 2]}, PRICES)
                self.assertEqual((table.task, table.deeds), (told, 2))

    def test_what_is_no_tuple(self):
        for deed in (None, 5, "", "undo", "u", True):
            self.raises(errors.BadDeed, 1, run_deeds, Table(TASK), [("undo",), deed])

    def test_errors_at_their_turn(self):
        first = ("set", "a", [3])
        for error, value, deeds in (
            (errors.BadDeed, 1, [first, ("no",), ("set", "c", [])]),
            (errors.NoSeat, "c", [first, ("set", "c", [9]), ("no",)]),
            (errors.BadPlace, -1, [first, ("set", "a", [4, -1]), ("no",)]),
            (errors.BadEdit, ("no",), [first, ("edit", ["no"]), ("no",)]),
            (errors.NoSeat, "c", [first, ("edit", ("free", "c", 9)), ("no",)]),
            (errors.BadPlace, 9, [first, ("edit", ("free", "a", 9)), ("no",)]),
            (errors.NoGate, 6, [first, ("edit", ("price", 6, "pay", -1)), ("no",)]),
            (errors.BadWord, "pay", [first, ("edit", ("price", 5, "pay", -1)), ("no",)]),
            (errors.BadPrice, 5, [first, ("edit", ("price", 5, "back", -1)), ("no",)]),
        ):
            table = Table(TASK)
            self.raises(error, value, run_deeds, table, deeds)
            self.assertEqual((table.task, table.deeds), (Task(DIAMOND, {"a": [3], "b": [2]}, PRICES), 1))

    def test_deeds_are_not_changed(self):
        deeds = [["set", "a", [3, 0, 3]], ["edit", ["use", "b", 0]], ["undo"], ("set", "b", Lot([1]))]
        kept = copy.deepcopy(deeds)
        table = Table(TASK)
        run_deeds(table, deeds)
        preview(table, deeds)
        self.assertEqual(deeds, kept)
        deeds[0][2].append(1)
        deeds[3] = None
        self.assertEqual((table["a"], table["b"]), (Lot([0, 3]), Lot([1])))


class TestPreview(SeatCase):
    def table(self):
        """A table with two deeds."""
        table = Table(TASK)
        table["a"] = [3]
        table.edit(("price", 5, "back", 1))
        return table

    def test_totals(self):
        # The lot of all places costs 3 + 1 for a, and 3 + 3 if the second deed is undone; b costs 2.
        for deeds, total in (
            ([], 4 + 2), ([("set", "a", [])], 2), ([("edit", ("free", "b", 2))], 4), ([("undo",)], 6 + 2),
            ([("undo",), ("undo",), ("set", "b", [])], 6), ([("undo",)] * 5, 6 + 2),
            ([("edit", ("price", 5, "back", None))], None), ([("edit", ("price", 4, "save", 0)), ("undo",)], 4 + 2),
            ([("undo",), ("set", "a", [1]), ("undo",), ("set", "b", [])], 6),
        ):
            table = self.table()
            kept = state(table)
            self.assertEqual(preview(table, deeds), total)
            self.assertEqual(preview(table, tuple(deeds)), total)
            self.assertEqual(state(table), kept)
            run_deeds(table, deeds)
            self.assertEqual(table.total(), total)

    def test_no_deeds(self):
        table = Table(TASK)
        self.assertEqual(preview(table, []), 8)
        self.assertEqual(state(table), [(TASK, 0)])

    def test_previews_that_fail_in_the_middle(self):
        for error, value, deed in (
            (errors.BadDeed, 4, ("no",)), (errors.BadDeed, 4, ()), (errors.NoSeat, "c", ("set", "c", [9])),
            (errors.BadPlace, -1, ("set", "a", [4, -1])), (errors.BadEdit, ("no",), ("edit", ["no"])),
            (errors.BadPrice, 5, ("edit", ("price", 5, "back", -1))), (errors.NoGate, 6, ("edit", ("price", 6, "x", 0))),
            (errors.BadWord, "x", ("edit", ("price", 5, "x", 0))), (errors.BadPlace, 4, ("edit", ("use", "a", 4))),
        ):
            table = self.table()
            kept = state(table)
            deeds = [("undo",), ("undo",), ("undo",), ("set", "b", [0]), deed, ("set", "b", [1])]
            self.raises(error, value, preview, table, deeds)
            self.assertEqual(state(table), kept)

    def test_all_bad_deeds(self):
        for deed in NO_DEEDS:
            table = self.table()
            kept = state(table)
            self.raises(errors.BadDeed, 1, preview, table, [("undo",), deed])
            self.assertEqual(state(table), kept)

    def test_drawn_deeds(self):
        rng = random.Random(45)
        for _ in range(100):
            web = drawn_web(rng, rng.randint(1, 4), 7)
            table = Table(Task(web, {"a": drawn_lot(rng, web), "b": []}, drawn_prices(rng, web, 5, 0.1)))

            def drawn():
                kind, name = rng.choice(("set", "edit", "price", "undo")), rng.choice("ab")
                if kind == "set":
                    return (kind, name, list(drawn_lot(rng, web)))
                if kind == "edit":
                    return (kind, (rng.choice(("use", "free")), name, rng.randrange(web.places)))
                if kind == "price":
                    return ("edit", ("price", rng.randrange(web.gates), "save", rng.choice((None, 0, 3))))
                return (kind,)
            run_deeds(table, [drawn() for _ in range(4)])
            kept = state(table)
            deeds = [drawn() for _ in range(5)]
            told = preview(table, deeds)
            self.assertEqual(state(table), kept)
            run_deeds(table, deeds)
            self.assertEqual(told, table.total())


if __name__ == "__main__":
    unittest.main()
