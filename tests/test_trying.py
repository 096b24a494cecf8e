"""Points 34 and 35: lots that are tried."""

import copy
import inspect
import itertools
import random
import unittest

from savedseats import errors
from savedseats.leastcost import least
from savedseats.lots import Lot
from savedseats.prices import Prices
from savedseats.trying import is_keen, is_steady, least_tried
from savedseats.webs import Web
from support import (
    DIAMOND, LOOP, POINT, ROUNDS, SeatCase, all_lots, chain, cost_of, drawn_lot, drawn_prices, drawn_web, large_web,
    marks_of, walked,
)

BACK = Web(4, [(0, 1), (1, 2), (2, 1), (2, 3)], 0, [3])
PRICES = Prices(DIAMOND, [5, 5, 1, 1, 3, 3], [5, 5, 1, 1, 3, 3])
OTHER = Web(4, [(0, 1), (1, 3), (2, 3), (0, 2)], 0, [3])


def even(web, price):
    """The same price everywhere."""
    return Prices(web, [price] * web.gates, [price] * web.gates)


def steady(web, lot):
    """Whether a lot is steady, by walking all pairs of a place and the number of saves, up to 2."""
    marks = marks_of(web, lot)
    first = int((len(web.edges), "save") in marks)
    seen = walked(web, first, lambda number, edge, end: min(2, number + ((edge, "save") in marks)))
    return all(number < 2 for _, number in seen)


def keen(web, uses, lot):
    """Whether a lot is keen, by walking: since the last save, a way has come to a use or not; idle is bad behind."""
    marks = marks_of(web, lot)

    def step(what, gate, end):
        if (gate, "back") in marks:
            what = "idle" if what in ("saved", "idle") else "clean"
        elif (gate, "save") in marks:
            what = "saved" if what != "idle" else what
        return "used" if what == "saved" and end in uses.places else what

    for place, what in walked(web, step("clean", len(web.edges), web.entry), step):
        if what == "idle" or (place in web.exits and step(what, web.gate_out(place), None) == "idle"):
            return False
    return True


def tried(web, uses, prices, want_steady, want_keen):
    """What least_tried is to return, by trying all lots."""
    found = []
    for lot in all_lots(web, uses):
        worth = cost_of(web, lot, prices)
        right = (not want_steady or steady(web, lot)) and (not want_keen or keen(web, uses, lot))
        if worth is not None and right:
            found.append((worth, len(lot.places), lot.places))
    return (min(found)[0], Lot(min(found)[2])) if found else None


class TestIsSteady(SeatCase):
    def test_the_empty_lot_and_the_lot_of_all_places(self):
        for web in (DIAMOND, ROUNDS, POINT, LOOP, BACK, chain(24)):
            self.assertIs(is_steady(web, Lot([])), True)
            self.assertIs(is_steady(web, Lot(range(web.places))), True)

    def test_saves(self):
        self.assertIs(is_steady(DIAMOND, Lot([1, 2])), True)
        self.assertIs(is_steady(DIAMOND, Lot([1, 2, 3])), True)
        self.assertIs(is_steady(DIAMOND, Lot([0, 3])), False)
        self.assertIs(is_steady(DIAMOND, Lot([0, 1, 3])), False)

    def test_a_way_that_leaves_and_comes_again(self):
        self.assertIs(is_steady(BACK, Lot([2])), False)
        self.assertIs(is_steady(BACK, Lot([1])), False)
        self.assertIs(is_steady(BACK, Lot([1, 2])), True)
        self.assertIs(is_steady(chain(24), Lot([0, 23])), False)
        self.assertIs(is_steady(LOOP, Lot([0])), True)

    def test_all_lots_of_drawn_webs(self):
        rng = random.Random(34)
        found = []
        for _ in range(150):
            web = drawn_web(rng, rng.randint(1, 6), rng.choice((6, 10, 16)))
            for lot in all_lots(web, Lot([])):
                found.append(is_steady(web, lot))
                self.assertIs(found[-1], steady(web, lot))
        self.assertTrue(all(found.count(told) > 100 for told in (True, False)))

    def test_webs_of_24_places(self):
        rng = random.Random(340)
        found = []
        for _ in range(60):
            web = large_web(rng, 24, rng.choice((23, 25, 30, 80)))
            for lot in (drawn_lot(rng, web), Lot([rng.randrange(24)]), Lot(range(rng.randint(0, 24)))):
                found.append(is_steady(web, lot))
                self.assertIs(found[-1], steady(web, lot))
        self.assertTrue(all(found.count(told) > 20 for told in (True, False)))

    def test_bad_place(self):
        self.raises(errors.BadPlace, 4, is_steady, DIAMOND, Lot([9, 4, 1]))


class TestIsKeen(SeatCase):
    def test_the_empty_lot_and_the_lot_of_all_places(self):
        for web in (DIAMOND, ROUNDS, POINT, LOOP, BACK, chain(24)):
            full = Lot(range(web.places))
            self.assertIs(is_keen(web, Lot([]), Lot([])), True)
            self.assertIs(is_keen(web, full, Lot([])), True)
            self.assertIs(is_keen(web, Lot([]), full), False)
            self.assertIs(is_keen(web, full, full), True)
            self.assertIs(is_keen(web, Lot([web.entry]), full), True)

    def test_uses_on_the_ways(self):
        self.assertIs(is_keen(DIAMOND, Lot([1]), Lot([1])), True)
        self.assertIs(is_keen(DIAMOND, Lot([1]), Lot([1, 2])), False)
        self.assertIs(is_keen(DIAMOND, Lot([1]), Lot(range(4))), False)
        self.assertIs(is_keen(DIAMOND, Lot([1, 2]), Lot(range(4))), True)
        self.assertIs(is_keen(DIAMOND, Lot([3]), Lot([1, 2, 3])), True)
        self.assertIs(is_keen(DIAMOND, Lot([0]), Lot([0, 3])), False)

    def test_uses_that_the_lot_does_not_have(self):
        self.assertIs(is_keen(DIAMOND, Lot([0, 3]), Lot([1])), False)
        self.assertIs(is_keen(DIAMOND, Lot([0, 1, 3]), Lot([1])), True)
        self.assertIs(is_keen(DIAMOND, Lot([2]), Lot([])), True)
        self.assertIs(is_keen(DIAMOND, Lot([2]), Lot([1])), False)
        # The way comes to the use at 2 ahead of the next back only if that is in the lot.
        self.assertIs(is_keen(chain(4), Lot([2]), Lot([1, 2])), True)
        self.assertIs(is_keen(chain(4), Lot([2]), Lot([1])), False)
        self.assertIs(is_keen(chain(4), Lot([2]), Lot([1, 3])), False)

    def test_ways_that_leave_and_come_again(self):
        # Between the save at 1 and the back behind 2 is 1 or 2; the way may go round.
        self.assertIs(is_keen(BACK, Lot([1]), Lot([1, 2])), True)
        self.assertIs(is_keen(BACK, Lot([2]), Lot([1, 2])), True)
        # From 2 back to 1 the seat is given back and saved again.
        self.assertIs(is_keen(BACK, Lot([1]), Lot([1, 3])), False)
        self.assertIs(is_keen(BACK, Lot([1, 3]), Lot([1, 3])), True)
        # Coming again, a way goes from 0 to 2 without the use at 1, which it has had ahead.
        web = Web(4, [(0, 1), (1, 0), (0, 2), (2, 0), (2, 3)], 1, [3])
        self.assertIs(is_keen(web, Lot([1]), Lot([0, 1])), False)
        self.assertIs(is_keen(web, Lot([1]), Lot([0, 1, 2, 3])), True)
        self.assertIs(is_keen(web, Lot([1]), Lot([0, 1, 2])), True)

    def test_the_empty_way(self):
        self.assertIs(is_keen(POINT, Lot([0]), Lot([0])), True)
        self.assertIs(is_keen(POINT, Lot([]), Lot([0])), False)
        self.assertIs(is_keen(LOOP, Lot([]), Lot([0])), False)
        self.assertIs(is_keen(LOOP, Lot([0]), Lot([0])), True)
        # The longer way has a use, the empty one has not.
        web = Web(2, [(0, 1), (1, 0)], 0, [0])
        self.assertIs(is_keen(web, Lot([1]), Lot([0, 1])), False)

    def test_all_lots_of_drawn_webs(self):
        rng = random.Random(35)
        found = []
        for _ in range(120):
            web = drawn_web(rng, rng.randint(1, 5), rng.choice((5, 8, 14)))
            lots = all_lots(web, Lot([]))
            for uses, lot in itertools.product(rng.sample(lots, min(4, len(lots))), lots):
                found.append(is_keen(web, uses, lot))
                self.assertIs(found[-1], keen(web, uses, lot))
        self.assertTrue(all(found.count(told) > 500 for told in (True, False)))

    def test_webs_of_24_places(self):
        rng = random.Random(350)
        found = []
        for _ in range(80):
            web = large_web(rng, 24, rng.choice((23, 25, 30, 80)))
            uses = drawn_lot(rng, web)
            for lot in (drawn_lot(rng, web), uses, uses | drawn_lot(rng, web, 2)):
                found.append(is_keen(web, uses, lot))
                self.assertIs(found[-1], keen(web, uses, lot))
        self.assertTrue(all(found.count(told) > 20 for told in (True, False)))

    def test_errors(self):
        self.raises(errors.BadPlace, 4, is_keen, DIAMOND, Lot([5, 4]), Lot([1]))
        self.raises(errors.BadPlace, 5, is_keen, DIAMOND, Lot([5]), Lot([4]))
        self.raises(errors.BadPlace, 4, is_keen, DIAMOND, Lot([1]), Lot([6, 4]))


class TestLeastTried(SeatCase):
    def test_neither(self):
        self.assertEqual(least_tried(DIAMOND, Lot([1]), PRICES), (6, Lot(range(4))))
        self.assertIs(least_tried(DIAMOND, Lot([1]), PRICES).__class__, tuple)
        self.assertEqual(least_tried(DIAMOND, Lot([1]), PRICES, steady=False, keen=False), (6, Lot(range(4))))
        self.assertEqual(least_tried(DIAMOND, Lot([]), PRICES), (0, Lot([])))

    def test_keen_alone(self):
        # All places cost 6, but then the way by 2 has no use.
        self.assertEqual(least_tried(DIAMOND, Lot([1]), PRICES, keen=True), (10, Lot([1])))
        self.assertEqual(least_tried(DIAMOND, Lot([0, 3]), PRICES, keen=True), (6, Lot(range(4))))

    def test_steady_alone(self):
        web = chain(5)
        prices = even(web, 1).with_price(1, "save", 100).with_price(2, "save", 100).with_price(3, "save", 0)
        prices = prices.with_price(0, "save", 0).with_price(0, "back", 0).with_price(3, "back", 0)
        self.assertEqual(least_tried(web, Lot([0, 4]), prices), (2, Lot([0, 4])))
        self.assertEqual(least_tried(web, Lot([0, 4]), prices, steady=True), (2, Lot(range(5))))
        self.assertEqual(least_tried(web, Lot([0, 4]), prices, keen=True), (2, Lot([0, 4])))
        self.assertEqual(least_tried(web, Lot([0, 4]), prices, steady=True, keen=True), (2, Lot(range(5))))

    def test_both(self):
        web = Web(5, [(0, 1), (1, 4), (0, 2), (2, 3), (3, 4)], 0, [4, 3])
        for uses in all_lots(web, Lot([])):
            for first, second in itertools.product((True, False), repeat=2):
                told = least_tried(web, uses, even(web, 1), steady=first, keen=second)
                self.assertEqual(told, tried(web, uses, even(web, 1), first, second))

    def test_none(self):
        for web in (DIAMOND, POINT, LOOP):
            self.assertIsNone(least_tried(web, Lot([0]), even(web, None)))
            self.assertEqual(least_tried(web, Lot([]), even(web, None)), (0, Lot([])))
        web = chain(3)
        prices = even(web, 0).with_price(2, "save", None)
        self.assertIsNone(least_tried(web, Lot([0, 2]), prices))

    def test_none_under_a_condition_alone(self):
        # The way from 0 to 2 leaves the lot and comes again, as the lot of all three places costs None.
        web = Web(3, [(0, 1), (1, 2), (1, 1)], 0, [1, 2])
        prices = even(web, 0).with_price(web.gate_out(1), "back", None)
        self.assertEqual(least_tried(web, Lot([0, 2]), prices), (0, Lot([0, 2])))
        self.assertEqual(least_tried(web, Lot([0, 2]), prices, keen=True), (0, Lot([0, 2])))
        self.assertIsNone(least_tried(web, Lot([0, 2]), prices, steady=True))
        self.assertIsNone(least_tried(web, Lot([0, 2]), prices, steady=True, keen=True))
        # With 0 and 3 the way by 2 has no use; without one of them all lots cost None.
        prices = even(DIAMOND, 0).with_price(0, "save", None).with_price(1, "back", None)
        self.assertEqual(least_tried(DIAMOND, Lot([1]), prices), (0, Lot([0, 1, 3])))
        self.assertIsNone(least_tried(DIAMOND, Lot([1]), prices, keen=True))

    def test_several_lots_of_the_least_cost(self):
        self.assertEqual(least_tried(DIAMOND, Lot([]), even(DIAMOND, 0)), (0, Lot([])))
        self.assertEqual(least_tried(DIAMOND, Lot([2]), even(DIAMOND, 0)), (0, Lot([2])))
        # With 1 the lots [0, 1, 2] and [0, 1, 2, 3] cost 2, all others more.
        web = chain(4)
        prices = even(web, 1).with_price(0, "save", 2).with_price(1, "back", 2)
        self.assertEqual(least_tried(web, Lot([1]), prices), (2, Lot([0, 1, 2])))

    def test_the_least_tuple_of_several_with_as_few_places(self):
        # The other keen lot of cost 0 with four places is [0, 2, 3, 4].
        web = Web(6, [(4, 5), (0, 4), (2, 3), (0, 1), (3, 0), (4, 2), (5, 1), (1, 4)], 1, [3])
        prices = Prices(web, [1, 1, 0, 0, 0, 0, 1, 0, 0, 0], [0, 0, 0, 0, 1, 0, 0, 0, 0, 0])
        self.assertEqual(least_tried(web, Lot([4]), prices, keen=True), (0, Lot([0, 1, 4, 5])))
        # The other steady lot of cost 1 with three places is [2, 3, 4].
        web = Web(6, [(5, 1), (4, 3), (1, 4), (5, 2), (2, 4), (5, 3), (5, 0)], 5, [0, 1, 3, 4, 5])
        saves, backs = [0, 1, 0, 1, 1, 0, 0, 0, 1, 1, 0, 1, 1], [0, 1, 1, 1, 1, 0, 1, 0, 0, 1, 0, 0, 0]
        self.assertEqual(least_tried(web, Lot([2]), Prices(web, saves, backs), steady=True), (1, Lot([0, 2, 5])))

    def test_all_prices_of_0_and_1_that_are_drawn(self):
        web = Web(4, [(0, 1), (0, 2), (1, 2), (2, 1), (1, 3), (2, 3)], 0, [3])
        rng = random.Random(351)
        several = 0
        for _ in range(200):
            prices = drawn_prices(rng, web, 1, 0)
            for uses in (Lot([]), Lot([0]), Lot([3])):
                for first, second in itertools.product((True, False), repeat=2):
                    told = least_tried(web, uses, prices, steady=first, keen=second)
                    self.assertEqual(told, tried(web, uses, prices, first, second))
                costs = [cost_of(web, lot, prices) for lot in all_lots(web, uses)]
                several += costs.count(min(costs)) > 1
        self.assertGreater(several, 100)

    def test_drawn_webs_by_trying_and_walking(self):
        rng = random.Random(352)
        different = set()
        for _ in range(200):
            web = drawn_web(rng, rng.randint(1, 6), 12)
            uses = drawn_lot(rng, web, min(3, web.places))
            prices = drawn_prices(rng, web, rng.choice((0, 1, 3, 100000)), rng.choice((0, 0.1, 0.3)))
            told = {}
            for first, second in itertools.product((True, False), repeat=2):
                told[first, second] = least_tried(web, uses, prices, steady=first, keen=second)
                self.assertEqual(told[first, second], tried(web, uses, prices, first, second))
            cost = least(web, uses, prices).cost
            self.assertEqual(None if told[False, False] is None else told[False, False][0], cost)
            if told[True, False] != told[False, False]:
                different.add("steady")
            if told[False, True] != told[False, False]:
                different.add("keen")
            if told[True, True] not in (told[True, False], told[False, True]):
                different.add("both")
        self.assertEqual(different, {"steady", "keen", "both"})

    def test_by_keyword_alone(self):
        parameters = inspect.signature(least_tried).parameters
        for name in ("steady", "keen"):
            self.assertIs(parameters[name].kind, inspect.Parameter.KEYWORD_ONLY)
            self.assertIs(parameters[name].default, False)
        with self.assertRaises(TypeError):
            least_tried(DIAMOND, Lot([1]), PRICES, True)

    def test_12_places(self):
        web = chain(12)
        self.assertEqual(least_tried(web, Lot([0, 11]), even(web, 1)), (2, Lot(range(12))))
        self.assertEqual(least_tried(web, Lot([0, 11]), even(web, 0), steady=True), (0, Lot(range(12))))
        self.assertEqual(least_tried(web, Lot([3, 5]), even(web, 0), steady=True, keen=True), (0, Lot([3, 4, 5])))
        self.assertEqual(least_tried(web, Lot([3, 5]), even(web, 0), keen=True), (0, Lot([3, 5])))

    def test_13_places(self):
        for places in (13, 24):
            web = chain(places)
            for price in (0, None):
                self.raises(errors.TooMany, places, least_tried, web, Lot([0]), even(web, price))
        with self.assertRaises(errors.TooMany):
            least_tried(chain(13), Lot([]), even(chain(13), 0), steady=True, keen=True)

    def test_order_of_errors(self):
        web = chain(13)
        self.raises(errors.BadPlace, 13, least_tried, web, Lot([14, 13]), even(chain(12), 0))
        self.raises(errors.OtherWeb, None, least_tried, web, Lot([12]), even(chain(12), 0))
        self.raises(errors.OtherWeb, None, least_tried, OTHER, Lot([1]), PRICES)
        self.raises(errors.BadPlace, 4, least_tried, DIAMOND, Lot([4]), PRICES)

    def test_arguments_are_not_changed(self):
        passed = (DIAMOND, Lot([1]), PRICES)
        kept = copy.deepcopy(passed)
        least_tried(*passed, steady=True, keen=True)
        is_keen(DIAMOND, passed[1], passed[1])
        is_steady(DIAMOND, passed[1])
        self.assertEqual(passed, kept)


if __name__ == "__main__":
    unittest.main()
