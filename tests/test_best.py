"""Points 26 and 27: best lots."""

import copy
import random
import unittest

from savedseats import errors
from savedseats.best import best_lots, count_best
from savedseats.leastcost import least
from savedseats.lots import Lot
from savedseats.prices import Prices
from savedseats.webs import Web
from support import (
    DIAMOND, LOOP, POINT, SeatCase, all_lots, chain, cost_of, drawn_lot, drawn_prices, drawn_web, large_web,
    least_of,
)

PRICES = Prices(DIAMOND, [5, 5, 1, 1, 3, 3], [5, 5, 1, 1, 3, 3])
OTHER = Web(4, [(0, 1), (1, 3), (2, 3), (0, 2)], 0, [3])


def even(web, price):
    """The same price everywhere."""
    return Prices(web, [price] * web.gates, [price] * web.gates)


def all_best(web, uses, prices):
    """All best lots, by trying all."""
    lots = all_lots(web, uses)
    costs = [cost_of(web, lot, prices) for lot in lots]
    return [lot for lot, worth in zip(lots, costs) if worth is not None and worth == least_of(costs)]


class TestBestLots(SeatCase):
    def test_one_best_lot(self):
        self.assertEqual(best_lots(DIAMOND, Lot([1]), PRICES), (Lot(range(4)), Lot(range(4))))
        self.assertIs(best_lots(DIAMOND, Lot([1]), PRICES).__class__, tuple)

    def test_several_best_lots(self):
        web = chain(5)
        self.assertEqual(best_lots(web, Lot([2]), even(web, 1)), (Lot([2]), Lot(range(5))))
        dear = even(web, 1).with_price(3, "back", 2)
        self.assertEqual(best_lots(web, Lot([1, 2]), dear), (Lot([1, 2]), Lot(range(5))))
        cheap = even(web, 2).with_price(3, "back", 1)
        self.assertEqual(best_lots(web, Lot([2]), cheap), (Lot([2, 3]), Lot(range(4))))

    def test_no_uses(self):
        self.assertEqual(best_lots(DIAMOND, Lot([]), PRICES), (Lot([]), Lot([])))
        self.assertEqual(best_lots(DIAMOND, Lot([]), even(DIAMOND, 0)), (Lot([]), Lot(range(4))))
        self.assertEqual(best_lots(DIAMOND, Lot([]), even(DIAMOND, None)), (Lot([]), Lot([])))

    def test_all_places_as_uses(self):
        self.assertEqual(best_lots(DIAMOND, Lot(range(4)), even(DIAMOND, 9)), (Lot(range(4)), Lot(range(4))))

    def test_none(self):
        for web in (DIAMOND, POINT, LOOP):
            self.assertIsNone(best_lots(web, Lot([0]), even(web, None)))
        self.assertIsNone(best_lots(DIAMOND, Lot([1]), Prices(DIAMOND, [None] * 6, [0] * 6)))

    def test_drawn_webs_against_all_lots(self):
        rng = random.Random(26)
        for _ in range(400):
            web = drawn_web(rng, rng.randint(1, 6), 12)
            uses = drawn_lot(rng, web, min(web.places, 3))
            prices = drawn_prices(rng, web, rng.choice((0, 1, 2, 100000)), rng.choice((0, 0.2, 0.5)))
            best = all_best(web, uses, prices)
            self.assertEqual(count_best(web, uses, prices), len(best))
            if not best:
                self.assertIsNone(best_lots(web, uses, prices))
                continue
            common = set.intersection(*[set(lot.places) for lot in best])
            union = set().union(*[set(lot.places) for lot in best])
            self.assertEqual(best_lots(web, uses, prices), (Lot(sorted(common)), Lot(sorted(union))))
            # The common part and the union of two best lots are best.
            for first, second in zip(best, best[1:]):
                self.assertIn(first & second, best)
                self.assertIn(first | second, best)

    def test_webs_of_24_places(self):
        rng = random.Random(260)
        kinds = set()
        for _ in range(50):
            web = large_web(rng)
            uses = drawn_lot(rng, web, 4)
            greatest, barred = rng.choice(((1, 0), (3, 0.1), (100000, 0), (100000, 0.5)))
            prices = drawn_prices(rng, web, greatest, barred)
            found, told = best_lots(web, uses, prices), least(web, uses, prices).cost
            if told is None:
                self.assertIsNone(found)
                continue
            small, large = found
            self.assertTrue(set(uses.places) <= set(small.places) <= set(large.places))
            self.assertEqual([cost_of(web, lot, prices) for lot in found], [told, told])
            for _ in range(20):
                # No lot of the least cost goes without a place of the least one or beyond the greatest one.
                lot = Lot(place for place in range(24) if rng.random() < 0.5) | uses
                if not (small <= lot and lot <= large):
                    worth = cost_of(web, lot, prices)
                    self.assertTrue(worth is None or worth > told)
            kinds.add(small == large)
        self.assertEqual(kinds, {True, False})

    def test_places_by_one_price_in_webs_of_24_places(self):
        rng = random.Random(261)
        for _ in range(12):
            web = large_web(rng, 24, 40)
            uses = drawn_lot(rng, web, 3)
            prices = drawn_prices(rng, web, 2, 0)
            small, large = best_lots(web, uses, prices)
            told = least(web, uses, prices).cost
            for place in range(24):
                # Just the places of the least lot are in all best lots, just those of the greatest one in one.
                self.assertIs(least(web, uses | Lot([place]), prices).cost == told, place in large)
                if place not in uses:
                    self.assertIs(self.least_without(web, uses, prices, place) == told, place not in small)

    def least_without(self, web, uses, prices, place):
        """The least cost of the lots without a place, which are those where its marks towards others bar."""
        exits = [*web.exits, place]
        more = Web(web.places, web.edges, web.entry, exits)
        saves, backs = [list(row) for row in (prices.saves, prices.backs)]
        gate = more.gate_out(place)
        for row in (saves, backs):
            if place not in web.exits:
                row.insert(gate, 0)
        backs[gate] = None
        return least(more, uses, Prices(more, saves, backs)).cost

    def test_errors(self):
        for told in (best_lots, count_best):
            self.raises(errors.BadPlace, 4, told, DIAMOND, Lot([5, 4]), PRICES)
            self.raises(errors.OtherWeb, None, told, OTHER, Lot([1]), PRICES)
            self.raises(errors.BadPlace, 4, told, OTHER, Lot([4]), PRICES)

    def test_arguments_are_not_changed(self):
        passed = (DIAMOND, Lot([1]), PRICES)
        kept = copy.deepcopy(passed)
        best_lots(*passed)
        count_best(*passed)
        self.assertEqual(passed, kept)


class TestCountBest(SeatCase):
    def test_counts(self):
        self.assertEqual(count_best(DIAMOND, Lot([1]), PRICES), 1)
        self.assertEqual(count_best(DIAMOND, Lot([]), PRICES), 1)
        self.assertEqual(count_best(DIAMOND, Lot([]), even(DIAMOND, 0)), 16)
        self.assertEqual(count_best(DIAMOND, Lot([1, 2]), even(DIAMOND, 0)), 4)
        self.assertEqual(count_best(DIAMOND, Lot(range(4)), even(DIAMOND, 0)), 1)
        web = chain(5)
        self.assertEqual(count_best(web, Lot([2]), even(web, 1)), 9)

    def test_no_best_lot(self):
        for web in (DIAMOND, POINT, LOOP):
            self.assertEqual(count_best(web, Lot([0]), even(web, None)), 0)

    def test_some_lots_that_cost_none(self):
        prices = even(DIAMOND, 0).with_price(0, "save", None).with_price(0, "back", None)
        # With 1 go just the lots that have 0.
        self.assertEqual(count_best(DIAMOND, Lot([1]), prices), 4)

    def test_12_places(self):
        web = chain(12)
        self.assertEqual(count_best(web, Lot([]), even(web, 0)), 4096)
        self.assertEqual(count_best(web, Lot([0]), even(web, 1)), 12)

    def test_13_places(self):
        for places in (13, 24):
            web = chain(places)
            for price in (0, None):
                self.raises(errors.TooMany, places, count_best, web, Lot([0]), even(web, price))

    def test_too_many_behind_the_errors_of_the_arguments(self):
        web = chain(13)
        self.raises(errors.BadPlace, 13, count_best, web, Lot([13]), even(web, 0))
        self.raises(errors.OtherWeb, None, count_best, web, Lot([0]), even(chain(14), 0))


if __name__ == "__main__":
    unittest.main()
