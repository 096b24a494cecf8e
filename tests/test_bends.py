"""Points 28 to 30: how the least cost bends with one price."""

import copy
import random
import unittest

from savedseats import errors
from savedseats.bends import Bend, bend
from savedseats.leastcost import least
from savedseats.lots import Lot
from savedseats.prices import Prices
from savedseats.webs import Web
from support import (
    DIAMOND, LOOP, POINT, SeatCase, all_lots, cost_of, drawn_lot, drawn_prices, drawn_web, large_web, least_of,
    marks_of,
)

PRICES = Prices(DIAMOND, [5, 5, 1, 1, 3, 3], [5, 5, 1, 1, 3, 3])
OTHER = Web(4, [(0, 1), (1, 3), (2, 3), (0, 2)], 0, [3])
WORDS = ("save", "back")


def tried(web, uses, prices, gate, word):
    """The pair (paying, other), by trying all lots."""
    free = prices.with_price(gate, word, 0)
    lots = [(lot, (gate, word) in marks_of(web, lot)) for lot in all_lots(web, uses)]
    return (
        least_of([cost_of(web, lot, free) for lot, pays in lots if pays]),
        least_of([cost_of(web, lot, prices) for lot, pays in lots if not pays]),
    )


class TestBend(unittest.TestCase):
    def test_attributes(self):
        found = Bend(3, 9)
        self.assertEqual(vars(found), {"paying": 3, "other": 9})
        self.assertEqual(vars(Bend(paying=None, other=2)), {"paying": None, "other": 2})

    def test_price(self):
        for paying, other, price in (
            (3, 9, 6), (9, 3, 0), (3, 3, 0), (0, 0, 0), (0, 1, 1), (3, None, None), (None, 9, 0), (None, 0, 0),
            (None, None, None), (0, 2400000, 2400000), (0, None, None),
        ):
            self.assertEqual(Bend(paying, other).price, price)

    def test_at(self):
        for paying, other, p, told in (
            (3, 9, 0, 3), (3, 9, 5, 8), (3, 9, 6, 9), (3, 9, 7, 9), (3, 9, 100001, 9), (3, 9, None, 9),
            (9, 3, 0, 3), (9, 3, 8, 3), (9, 3, None, 3),
            (3, None, 0, 3), (3, None, 100001, 100004), (3, None, 10 ** 30, 10 ** 30 + 3), (3, None, None, None),
            (None, 9, 0, 9), (None, 9, 7, 9), (None, 9, None, 9),
            (None, None, 0, None), (None, None, 7, None), (None, None, None, None), (0, 0, 0, 0), (0, 0, None, 0),
        ):
            self.assertEqual(Bend(paying, other).at(p), told)

    def test_price_and_at_go_together(self):
        for paying in (None, 0, 1, 4, 7):
            for other in (None, 0, 1, 4, 7):
                found = Bend(paying, other)
                if found.price is None:
                    self.assertEqual(found.at(None), None)
                    continue
                for p in range(10):
                    # From the price on the lots that do not pay are as good as any, and below it none is.
                    self.assertIs(found.at(p) == other, p >= found.price)


class BendCase(SeatCase):
    def check_bend(self, web, uses, prices, gate, word):
        """Check a bend against all lots and return it."""
        found = bend(web, uses, prices, gate, word)
        self.assertIs(found.__class__, Bend)
        self.assertEqual((found.paying, found.other), tried(web, uses, prices, gate, word))
        self.assertEqual(found.at(prices[gate, word]), least(web, uses, prices).cost)
        return found


class TestFunction(BendCase):
    def test_example(self):
        found = bend(DIAMOND, Lot([1]), PRICES, 4, "save")
        self.assertEqual([found.paying, found.other, found.price], [3, 9, 6])

    def test_paying_takes_the_price_as_0(self):
        for price in (0, 3, 100000, None):
            found = bend(DIAMOND, Lot([1]), PRICES.with_price(4, "save", price), 4, "save")
            self.assertEqual([found.paying, found.other, found.price], [3, 9, 6])

    def test_without_paying(self):
        for gate, word in ((4, "back"), (5, "save"), (0, "back"), (1, "save")):
            found = self.check_bend(DIAMOND, Lot([1]), PRICES, gate, word)
            self.assertEqual([found.paying, found.other, found.price], [None, 6, 0])

    def test_without_other(self):
        found = self.check_bend(DIAMOND, Lot([0]), PRICES, 4, "save")
        self.assertEqual([found.other, found.price, found.at(None)], [None, None, None])
        self.assertIsNotNone(found.paying)

    def test_with_neither(self):
        barred = Prices(DIAMOND, [None] * 6, [None] * 6)
        for gate in range(6):
            for word in WORDS:
                found = self.check_bend(DIAMOND, Lot([1]), barred, gate, word)
                self.assertEqual([found.paying, found.other, found.price], [None, None, None])

    def test_with_a_price_of_0(self):
        found = self.check_bend(DIAMOND, Lot([1]), PRICES, 2, "back")
        self.assertEqual([found.paying, found.other, found.price], [7, 6, 0])
        # Where both cost the same, nothing has to be paid.
        found = self.check_bend(DIAMOND, Lot([1]), PRICES.with_price(3, "save", 0), 2, "back")
        self.assertEqual([found.paying, found.other, found.price], [6, 6, 0])

    def test_with_a_price_above_100000(self):
        prices = Prices(DIAMOND, [100000, None, None, None, 0, None], [None, 100000, 100000, None, None, 0])
        found = self.check_bend(DIAMOND, Lot([1]), prices, 4, "save")
        self.assertEqual([found.paying, found.other, found.price], [0, 200000, 200000])
        self.assertEqual([found.at(199999), found.at(200000), found.at(None)], [199999, 200000, 200000])

    def test_a_gate_from_a_place_to_itself(self):
        prices = Prices(LOOP, [1, 2, 3], [4, 5, 6])
        for uses, told in (([], 0), ([0], 8)):
            for word in WORDS:
                found = self.check_bend(LOOP, Lot(uses), prices, 0, word)
                self.assertEqual([found.paying, found.other, found.price], [None, told, 0])

    def test_in_and_out_of_one_place(self):
        prices = Prices(POINT, [2, 3], [5, 7])
        found = self.check_bend(POINT, Lot([0]), prices, 0, "save")
        self.assertEqual([found.paying, found.other], [7, None])
        found = self.check_bend(POINT, Lot([]), prices, 1, "back")
        self.assertEqual([found.paying, found.other, found.price], [2, 0, 0])

    def test_no_uses_and_all_places_as_uses(self):
        for uses in ([], range(4)):
            for gate in range(6):
                for word in WORDS:
                    self.check_bend(DIAMOND, Lot(uses), PRICES, gate, word)

    def test_drawn_webs_against_all_lots(self):
        rng = random.Random(28)
        kinds = set()
        for _ in range(120):
            web = drawn_web(rng, rng.randint(1, 5), 10)
            uses = drawn_lot(rng, web, min(web.places, 3))
            prices = drawn_prices(rng, web, rng.choice((1, 10, 100000)), rng.choice((0, 0.2, 0.5)))
            for gate in range(web.gates):
                for word in WORDS:
                    found = self.check_bend(web, uses, prices, gate, word)
                    kinds.add((found.paying is None, found.other is None, bool(found.price)))
        self.assertTrue({(a, b, False) for a in (True, False) for b in (True, False)} <= kinds)
        self.assertIn((False, False, True), kinds)

    def test_at_other_prices(self):
        rng = random.Random(30)
        for _ in range(80):
            web = drawn_web(rng, rng.randint(1, 6), 12)
            uses, prices = drawn_lot(rng, web), drawn_prices(rng, web, 9, 0.2)
            gate, word = rng.randrange(web.gates), rng.choice(WORDS)
            found = bend(web, uses, prices, gate, word)
            for p in (0, 1, 5, 9, 20, 100000, None):
                self.assertEqual(found.at(p), least(web, uses, prices.with_price(gate, word, p)).cost)

    def test_webs_of_24_places(self):
        rng = random.Random(280)
        for _ in range(40):
            web = large_web(rng)
            uses = drawn_lot(rng, web, 4)
            prices = drawn_prices(rng, web, 100000, rng.choice((0, 0, 0.1, 0.4)))
            for _ in range(6):
                gate, word = rng.randrange(web.gates), rng.choice(WORDS)
                found = bend(web, uses, prices, gate, word)
                for p in (prices[gate, word], 0, 50000, 100000, None):
                    self.assertEqual(found.at(p), least(web, uses, prices.with_price(gate, word, p)).cost)

    def test_errors(self):
        for number in (-1, 6, 99, None):
            for word in ("save", "use"):
                self.raises(errors.NoGate, number, bend, DIAMOND, Lot([1]), PRICES, number, word)
        for word in ("", "Save", "use", None, 0):
            self.raises(errors.BadWord, word, bend, DIAMOND, Lot([1]), PRICES, 0, word)
        self.raises(errors.BadPlace, 4, bend, DIAMOND, Lot([5, 4]), PRICES, 0, "save")
        self.raises(errors.OtherWeb, None, bend, OTHER, Lot([1]), PRICES, 0, "save")

    def test_order_of_errors(self):
        self.raises(errors.BadPlace, 4, bend, OTHER, Lot([4]), PRICES, 6, "use")
        self.raises(errors.OtherWeb, None, bend, OTHER, Lot([1]), PRICES, 6, "use")
        # The errors are due where no lot can be paid for, too.
        barred = Prices(DIAMOND, [None] * 6, [None] * 6)
        self.raises(errors.NoGate, 6, bend, DIAMOND, Lot([1]), barred, 6, "use")
        self.raises(errors.BadWord, "use", bend, DIAMOND, Lot([1]), barred, 5, "use")

    def test_arguments_are_not_changed(self):
        passed = (DIAMOND, Lot([1]), PRICES)
        kept = copy.deepcopy(passed)
        bend(*passed, 4, "save")
        self.assertEqual(passed, kept)


if __name__ == "__main__":
    unittest.main()
