"""Point 24: the least cost."""

import copy
import random
import unittest

from savedseats import errors
from savedseats.flows import arc_ends, shows_barred, shows_least, value_of
from savedseats.leastcost import Least, least
from savedseats.lots import Lot
from savedseats.prices import Prices, cost
from savedseats.webs import Web
from support import (
    DIAMOND, LOOP, POINT, SeatCase, all_lots, cost_of, drawn_lot, drawn_prices, drawn_web, large_web, least_of,
)

PRICES = Prices(DIAMOND, [5, 5, 1, 1, 3, 3], [5, 5, 1, 1, 3, 3])
OTHER = Web(4, [(0, 1), (1, 3), (2, 3), (0, 2)], 0, [3])


class LeastCase(SeatCase):
    def check_papers(self, web, uses, prices, found):
        """Check that the papers are as points 23 and 24 say, and are taken."""
        self.assertIs(found.__class__, Least)
        if found.cost is None:
            self.assertEqual((found.lot, found.flow), (None, None))
            self.check_row(web, uses, prices, found.row)
            self.assertIs(shows_barred(web, uses, prices, found.row), True)
            return
        self.assertIsNone(found.row)
        self.assertTrue(set(uses.places) <= set(found.lot.places))
        self.assertEqual((cost_of(web, found.lot, prices), cost(web, found.lot, prices)), (found.cost, found.cost))
        self.check_flow(web, uses, prices, found.flow)
        self.assertEqual(value_of(web, uses, prices, found.flow), found.cost)
        self.assertIs(shows_least(web, uses, prices, found.lot, found.flow), True)

    def check_row(self, web, uses, prices, row):
        """Check that these are joined arcs with the room None from a use to OUTSIDE."""
        self.assertIs(row.__class__, tuple)
        place = arc_ends(web, row[0])[0]
        self.assertIn(place, uses.places)
        for arc in row:
            self.assertIs(arc.__class__, tuple)
            begin, end = arc_ends(web, arc)
            self.assertEqual(begin, place)
            self.assertIsNone(prices[arc])
            place = end
        self.assertEqual(place, -1)

    def check_flow(self, web, uses, prices, flow):
        """Check that this is a flow, place by place."""
        self.assertIs(flow.__class__, dict)
        out = [0] * (web.places + 1)
        for arc, number in flow.items():
            begin, end = arc_ends(web, arc)
            self.assertIs(number.__class__, int)
            self.assertTrue(0 <= number and (prices[arc] is None or number <= prices[arc]))
            self.assertTrue(number == 0 or (begin != -1 and end not in uses.places))
            out[begin] += number
            out[end] -= number
        self.assertEqual({out[place] for place in range(web.places) if place not in uses.places} | {0}, {0})


class TestLeast(LeastCase):
    def test_it_holds_the_very_objects(self):
        passed = ([1], Lot([1]), {(0, "save"): 3}, ((1, "back"),))
        found = Least(*passed)
        self.assertEqual(list(vars(found)), ["cost", "lot", "flow", "row"])
        for one, two in zip(vars(found).values(), passed):
            self.assertIs(one, two)
        self.assertIs(Least(cost=1, lot=None, flow=None, row=passed).row, passed)


class TestLeastCost(LeastCase):
    def test_example(self):
        found = least(DIAMOND, Lot([1]), PRICES)
        self.assertEqual([found.cost, found.lot.places], [6, (0, 1, 2, 3)])
        self.check_papers(DIAMOND, Lot([1]), PRICES, found)

    def test_no_uses(self):
        for prices in (PRICES, Prices(DIAMOND, [None] * 6, [None] * 6), Prices(DIAMOND, [0] * 6, [0] * 6)):
            found = least(DIAMOND, Lot([]), prices)
            self.assertEqual((found.cost, found.row), (0, None))
            self.check_papers(DIAMOND, Lot([]), prices, found)

    def test_all_places_as_uses(self):
        found = least(DIAMOND, Lot(range(4)), PRICES)
        self.assertEqual((found.cost, found.lot), (6, Lot(range(4))))
        self.check_papers(DIAMOND, Lot(range(4)), PRICES, found)
        for barred in (PRICES.with_price(4, "save", None), PRICES.with_price(5, "back", None)):
            found = least(DIAMOND, Lot(range(4)), barred)
            self.assertEqual((found.cost, len(found.row)), (None, 1))
            self.check_papers(DIAMOND, Lot(range(4)), barred, found)

    def test_all_prices_0(self):
        free = Prices(DIAMOND, [0] * 6, [0] * 6)
        found = least(DIAMOND, Lot([2]), free)
        self.assertEqual(found.cost, 0)
        self.check_papers(DIAMOND, Lot([2]), free, found)

    def test_lots_that_all_cost_none(self):
        for uses in ([0], [1], [2, 3], range(4)):
            barred = Prices(DIAMOND, [None] * 6, [None] * 6)
            found = least(DIAMOND, Lot(uses), barred)
            self.assertEqual((found.cost, found.lot, found.flow), (None, None, None))
            self.check_papers(DIAMOND, Lot(uses), barred, found)

    def test_prices_that_bar_a_part(self):
        # Only the saves at 0 and 2 and the backs at 1 and 5 can be paid for.
        prices = Prices(DIAMOND, [7, None, 9, None, None, None], [None, 6, None, None, None, 8])
        found = least(DIAMOND, Lot([1]), prices)
        self.assertEqual((found.cost, found.lot), (13, Lot([1])))
        self.check_papers(DIAMOND, Lot([1]), prices, found)

    def test_webs_without_ends_between_places(self):
        for web, saves, backs in ((POINT, [4, None], [None, 5]), (LOOP, [None, 4, None], [None, None, 5])):
            prices = Prices(web, saves, backs)
            found = least(web, Lot([0]), prices)
            self.assertEqual((found.cost, found.lot), (9, Lot([0])))
            self.check_papers(web, Lot([0]), prices, found)

    def test_drawn_webs_against_all_lots(self):
        rng = random.Random(24)
        found_none = 0
        for number in range(400):
            web = drawn_web(rng, rng.randint(1, 6), 14)
            uses = drawn_lot(rng, web)
            prices = drawn_prices(rng, web, rng.choice((1, 5, 100, 100000)), rng.choice((0, 0.1, 0.4, 0.7)))
            found = least(web, uses, prices)
            told = least_of([cost_of(web, lot, prices) for lot in all_lots(web, uses)])
            self.assertEqual(found.cost, told, number)
            self.check_papers(web, uses, prices, found)
            found_none += told is None
        self.assertTrue(40 < found_none < 360)

    def test_webs_of_24_places(self):
        rng = random.Random(240)
        kinds = set()
        for _ in range(60):
            web = large_web(rng)
            uses = drawn_lot(rng, web, 5)
            prices = drawn_prices(rng, web, 100000, rng.choice((0, 0, 0.1, 0.3, 0.5)))
            found = least(web, uses, prices)
            self.check_papers(web, uses, prices, found)
            kinds.add(found.cost is None)
            if found.cost is not None:
                for _ in range(20):
                    other = cost_of(web, drawn_lot(rng, web) | uses, prices)
                    self.assertTrue(other is None or other >= found.cost)
        self.assertEqual(kinds, {True, False})

    def test_a_flow_that_must_be_led_another_way(self):
        # The shortest row goes over 0, 1 and 2; with it alone no other one is left from 0 to OUTSIDE.
        web = Web(7, [(0, 1), (1, 2), (0, 3), (3, 4), (4, 2), (1, 5), (5, 6)], 0, [2, 6])
        for price in (1, 50000, 100000):
            prices = Prices(web, [0] * web.gates, [price] * web.gates)
            found = least(web, Lot([0]), prices)
            self.assertEqual(found.cost, 2 * price)
            self.check_papers(web, Lot([0]), prices, found)
        # Here just a part of what goes over the gate 1 must be led another way.
        prices = Prices(web, [0] * 10, [5, 5, 2, 2, 2, 2, 2, 0, 5, 2])
        found = least(web, Lot([0]), prices)
        self.assertEqual((found.cost, found.flow[1, "back"]), (7, 3))
        self.check_papers(web, Lot([0]), prices, found)

    def test_webs_of_24_places_with_many_prices_of_0(self):
        rng = random.Random(241)
        for _ in range(100):
            web = large_web(rng, 24, rng.randint(30, 80))
            uses = drawn_lot(rng, web, 3)
            prices = drawn_prices(rng, web, rng.choice((1, 1, 2, 9)), 0)
            self.check_papers(web, uses, prices, least(web, uses, prices))

    def test_a_web_of_many_edges_against_all_lots(self):
        edges = [
            (5, 5), (0, 5), (4, 1), (1, 0), (6, 3), (1, 2), (5, 2), (0, 0), (6, 1), (3, 1), (1, 1), (1, 3), (3, 2), (4, 5),
            (0, 6), (5, 3), (2, 6), (4, 0), (6, 4), (0, 4), (3, 3), (0, 2), (4, 6), (1, 5), (1, 6), (5, 1), (2, 4), (3, 0),
            (5, 4), (3, 4),
        ]
        web = Web(7, edges, 6, [4, 5])
        rng = random.Random(12)
        found_none = 0
        for _ in range(60):
            prices = drawn_prices(rng, web, rng.choice((9, 100000)), rng.choice((0, 0.1, 0.2, 0.3)))
            for uses in (Lot([5]), Lot([2, 5]), Lot([1])):
                found = least(web, uses, prices)
                self.assertEqual(found.cost, least_of([cost_of(web, lot, prices) for lot in all_lots(web, uses)]))
                self.check_papers(web, uses, prices, found)
                found_none += found.cost is None
        self.assertTrue(10 < found_none < 150)

    def test_the_flow_has_just_the_arcs_along_which_something_flows(self):
        for uses, price in ((Lot([1]), 1), (Lot([]), 1), (Lot(range(4)), 0), (Lot(range(4)), 2)):
            prices = Prices(DIAMOND, [price] * 6, [price] * 6)
            self.assertNotIn(0, least(DIAMOND, uses, prices).flow.values())

    def test_equal_web_that_was_built_again(self):
        again = Web(4, ([0, 1], [1, 3], [0, 2], [2, 3]), 0, (3, 3))
        self.assertEqual(least(again, Lot([1]), PRICES).cost, 6)

    def test_the_flow_belongs_to_the_caller(self):
        least(DIAMOND, Lot([1]), PRICES).flow.clear()
        self.check_papers(DIAMOND, Lot([1]), PRICES, least(DIAMOND, Lot([1]), PRICES))

    def test_errors(self):
        self.raises(errors.BadPlace, 4, least, DIAMOND, Lot([5, 4]), PRICES)
        self.raises(errors.OtherWeb, None, least, OTHER, Lot([1]), PRICES)
        self.raises(errors.BadPlace, 4, least, OTHER, Lot([4]), PRICES)
        self.raises(errors.OtherWeb, None, least, DIAMOND, Lot([1]), Prices(POINT, [1, 1], [1, 1]))
        self.raises(errors.OtherWeb, None, least, POINT, Lot([0]), PRICES)
        self.raises(errors.OtherWeb, None, least, POINT, Lot([]), Prices(DIAMOND, [None] * 6, [None] * 6))

    def test_arguments_are_not_changed(self):
        passed = (DIAMOND, Lot([1]), PRICES)
        kept = copy.deepcopy(passed)
        least(*passed)
        self.assertEqual(passed, kept)


if __name__ == "__main__":
    unittest.main()
