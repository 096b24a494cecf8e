"""Points 19 to 21: prices and costs."""

import copy
import random
import unittest

from savedseats import errors
from savedseats.lots import Lot
from savedseats.prices import Prices, cost
from savedseats.webs import Web
from support import (
    DIAMOND, LOOP, POINT, SeatCase, all_lots, chain, cost_of, drawn_prices, drawn_web,
)

SAVES, BACKS = (5, 5, 1, 1, 3, 3), (0, 1, 2, None, 4, 100000)
# An equal web that was built again, and a web that is not equal, with as many gates.
AGAIN = Web(4, ([0, 1], [1, 3], [0, 2], [2, 3]), 0, (3, 3))
OTHER = Web(4, [(0, 1), (1, 3), (2, 3), (0, 2)], 0, [3])


def at(prices, gate, word):
    """The price, by a function, for tests of errors."""
    return prices[gate, word]


def plus(first, second):
    """The sum, by a function, for tests of errors."""
    return first + second


class TestConstructor(SeatCase):
    def test_it_holds_the_web_and_two_tuples(self):
        for kind in (list, tuple):
            prices = Prices(DIAMOND, kind(SAVES), kind(BACKS))
            self.assertEqual(list(vars(prices)), ["web", "saves", "backs"])
            self.assertIs(prices.web, DIAMOND)
            self.assertEqual((prices.saves, prices.backs), (SAVES, BACKS))
            self.assertEqual((prices.saves.__class__, prices.backs.__class__), (tuple, tuple))
        self.assertEqual(Prices(web=POINT, saves=[1, 2], backs=[3, 4]).backs, (3, 4))

    def test_edges_of_prices(self):
        for price in (0, 1, 99999, 100000, None):
            self.assertEqual(Prices(POINT, [price, 0], [0, price]).saves, (price, 0))
        for price in (-1, 100001, 10 ** 30, -(10 ** 30), "1", (1,), True, False):
            self.raises(errors.BadPrice, 1, Prices, POINT, [0, price], [0, 0])
            self.raises(errors.BadPrice, 0, Prices, POINT, [0, 0], [price, 0])

    def test_too_few_and_too_many(self):
        for count in (0, 1, 5, 7, 8):
            self.raises(errors.BadLength, count, Prices, DIAMOND, [0] * count, BACKS)
            self.raises(errors.BadLength, count, Prices, DIAMOND, SAVES, (0,) * count)
        self.raises(errors.BadLength, 1, Prices, LOOP, [0], [0, 0, 0])

    def test_order_of_errors(self):
        self.raises(errors.BadLength, 5, Prices, DIAMOND, [0] * 5, [0] * 7)
        self.raises(errors.BadLength, 7, Prices, DIAMOND, [-1] * 6, [-1] * 7)
        self.raises(errors.BadLength, 5, Prices, DIAMOND, [-1] * 5, SAVES)
        self.raises(errors.BadPrice, 2, Prices, DIAMOND, [0, 0, -1, 100001, 0, 0], [-1] * 6)
        self.raises(errors.BadPrice, 1, Prices, DIAMOND, SAVES, [0, 100001, -1, 0, 0, -1])

    def test_passed_lists(self):
        saves, backs = list(SAVES), list(BACKS)
        prices = Prices(DIAMOND, saves, backs)
        self.assertEqual((saves, backs), (list(SAVES), list(BACKS)))
        saves[0] = 9
        backs.append(9)
        self.assertEqual(prices, Prices(DIAMOND, SAVES, BACKS))

    def test_equality(self):
        prices = Prices(DIAMOND, SAVES, BACKS)
        self.assertTrue(prices == Prices(AGAIN, list(SAVES), list(BACKS)))
        self.assertFalse(prices != Prices(AGAIN, list(SAVES), list(BACKS)))
        for other in (
            Prices(OTHER, SAVES, BACKS), Prices(DIAMOND, BACKS, SAVES), Prices(DIAMOND, SAVES, SAVES),
            Prices(DIAMOND, BACKS, BACKS), (SAVES, BACKS), None,
        ):
            self.assertTrue(prices != other)
            self.assertFalse(prices == other)


class TestItems(SeatCase):
    def setUp(self):
        self.prices = Prices(DIAMOND, SAVES, BACKS)

    def test_prices(self):
        for gate in range(6):
            self.assertEqual(self.prices[gate, "save"], SAVES[gate])
            self.assertEqual(self.prices[gate, "back"], BACKS[gate])
        self.assertIsNone(self.prices[3, "back"])

    def test_errors(self):
        for number in (-1, -6, 6, 7, 10 ** 6, None, "0", (0,), True):
            for word in ("save", "back", "Save", None):
                self.raises(errors.NoGate, number, at, self.prices, number, word)
                self.raises(errors.NoGate, number, self.prices.with_price, number, word, -1)
        for word in ("", "Save", "saves", "save ", "use", "sav", None, 0, ("save",)):
            self.raises(errors.BadWord, word, at, self.prices, 5, word)
            self.raises(errors.BadWord, word, self.prices.with_price, 5, word, -1)

    def test_with_price(self):
        changed = self.prices.with_price(3, "back", 7)
        self.assertEqual(changed, Prices(DIAMOND, SAVES, (0, 1, 2, 7, 4, 100000)))
        self.assertEqual(
            self.prices.with_price(0, "save", None), Prices(DIAMOND, (None, 5, 1, 1, 3, 3), BACKS)
        )
        self.assertEqual(self.prices.with_price(gate=5, word="save", price=100000).saves[5], 100000)
        self.assertEqual(self.prices.with_price(1, "save", 0)[1, "save"], 0)
        self.assertEqual(self.prices, Prices(DIAMOND, SAVES, BACKS))
        self.assertIs(changed.web, DIAMOND)

    def test_with_price_for_each_price(self):
        for gate in range(6):
            for number, word in enumerate(("save", "back")):
                rows = [list(SAVES), list(BACKS)]
                rows[number][gate] = 77
                self.assertEqual(self.prices.with_price(gate, word, 77), Prices(DIAMOND, *rows))

    def test_with_price_that_is_none(self):
        for price in (-1, 100001, "1", (), True):
            for word in ("save", "back"):
                self.raises(errors.BadPrice, 4, self.prices.with_price, 4, word, price)
        self.assertEqual(self.prices, Prices(DIAMOND, SAVES, BACKS))

    def test_iteration_raises(self):
        self.assertRaises(TypeError, list, self.prices)


class TestSum(SeatCase):
    def test_sums(self):
        first, second = Prices(POINT, [1, None], [100000, 7]), Prices(Web(1, (), 0, (0, 0)), [2, 5], [0, None])
        self.assertEqual(first + second, Prices(POINT, [3, None], [100000, None]))
        self.assertEqual(second + first, first + second)
        self.assertEqual(first, Prices(POINT, [1, None], [100000, 7]))
        self.assertEqual(second, Prices(POINT, [2, 5], [0, None]))

    def test_none_and_none(self):
        barred = Prices(POINT, [None, None], [None, None])
        self.assertEqual(barred + barred, barred)
        self.assertEqual(Prices(POINT, [None, 100000], [100000, 0]) + barred, barred)

    def test_sums_above_the_greatest_price(self):
        half = Prices(POINT, [50000, 50000], [50000, 50000])
        self.assertEqual(half + half, Prices(POINT, [100000, 100000], [100000, 100000]))
        for saves, backs, gate in (
            ((50000, 50001), (0, 0), 1), ((0, 0), (50001, 50001), 0), ((0, 50001), (50001, 0), 1),
            ((0, 100000), (0, 0), 1), ((0, 0), (None, 100000), 1),
        ):
            self.raises(errors.BadPrice, gate, plus, Prices(POINT, saves, backs), half)
            self.raises(errors.BadPrice, gate, plus, half, Prices(POINT, saves, backs))

    def test_other_web_ahead_of_sums_that_are_too_great(self):
        high = [100000] * 6
        self.raises(errors.OtherWeb, None, plus, Prices(DIAMOND, high, high), Prices(OTHER, high, high))
        self.raises(errors.OtherWeb, None, plus, Prices(DIAMOND, SAVES, BACKS), Prices(POINT, [0, 0], [0, 0]))

    def test_drawn_sums(self):
        rng = random.Random(20)
        for _ in range(100):
            web = drawn_web(rng, rng.randint(1, 5), 8)
            first, second = [drawn_prices(rng, web, 50000, 0.2) for _ in range(2)]
            found = first + second
            for gate in range(web.gates):
                for word in ("save", "back"):
                    pair = [first[gate, word], second[gate, word]]
                    self.assertEqual(found[gate, word], None if None in pair else sum(pair))

    def test_prices_and_other_things(self):
        for other in (1, None, SAVES):
            self.assertRaises(TypeError, plus, Prices(DIAMOND, SAVES, BACKS), other)


class TestCost(SeatCase):
    def test_costs(self):
        prices = Prices(DIAMOND, SAVES, BACKS)
        for places, told in (
            ((), 0), ((1,), 6), ((0,), 5), ((2,), None), ((0, 1), 6), ((1, 2), None), ((3,), 100006),
            ((0, 1, 2, 3), 100003),
        ):
            self.assertEqual(cost(DIAMOND, Lot(places), prices), told)

    def test_a_lot_without_places_costs_nothing(self):
        for web in (DIAMOND, POINT, LOOP):
            barred = [None] * web.gates
            self.assertEqual(cost(web, Lot([]), Prices(web, barred, barred)), 0)

    def test_edges_from_a_place_to_itself_cost_nothing(self):
        self.assertEqual(cost(LOOP, Lot([0]), Prices(LOOP, [None, 3, 50], [None, 60, 4])), 7)

    def test_costs_that_are_none(self):
        prices = Prices(POINT, [0, None], [None, 0])
        self.assertEqual(cost(POINT, Lot([0]), prices), 0)
        self.assertIsNone(cost(POINT, Lot([0]), prices.with_price(0, "save", None)))
        self.assertIsNone(cost(POINT, Lot([0]), prices.with_price(1, "back", None)))

    def test_cost_above_the_greatest_price(self):
        web = chain(24)
        prices = Prices(web, [100000] * web.gates, [100000] * web.gates)
        self.assertEqual(cost(web, Lot(range(0, 24, 2)), prices), 2400000)

    def test_drawn_costs(self):
        rng = random.Random(21)
        for _ in range(60):
            web = drawn_web(rng, rng.randint(1, 5), 9)
            prices = drawn_prices(rng, web, 100000, 0.1)
            for lot in all_lots(web, Lot([])):
                self.assertEqual(cost(web, lot, prices), cost_of(web, lot, prices))

    def test_equal_web_that_was_built_again(self):
        self.assertEqual(cost(AGAIN, Lot([1]), Prices(DIAMOND, SAVES, BACKS)), 6)

    def test_errors(self):
        prices = Prices(DIAMOND, SAVES, BACKS)
        self.raises(errors.BadPlace, 4, cost, DIAMOND, Lot([5, 4, 0]), prices)
        self.raises(errors.OtherWeb, None, cost, OTHER, Lot([1]), prices)
        self.raises(errors.BadPlace, 4, cost, OTHER, Lot([4]), prices)
        self.raises(errors.OtherWeb, None, cost, POINT, Lot([0]), prices)

    def test_arguments_are_not_changed(self):
        passed = (DIAMOND, Lot([1]), Prices(DIAMOND, SAVES, BACKS))
        kept = copy.deepcopy(passed)
        cost(*passed)
        self.assertEqual(passed, kept)


if __name__ == "__main__":
    unittest.main()
