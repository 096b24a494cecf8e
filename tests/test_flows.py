"""Points 22, 23 and 25: arcs, flows, and the papers of the least cost."""

import copy
import itertools
import random
import unittest

from savedseats import errors
from savedseats.flows import arc_ends, arcs, shows_barred, shows_least, value_of
from savedseats.lots import Lot
from savedseats.prices import Prices
from savedseats.webs import Web
from support import (
    DIAMOND, LOOP, POINT, ROUNDS, SeatCase, all_lots, cost_of, drawn_lot, drawn_prices, drawn_web, marks_of,
)

PRICES = Prices(DIAMOND, [5, 5, 1, 1, 3, 3], [5, 5, 1, 1, 3, 3])
OTHER = Web(4, [(0, 1), (1, 3), (2, 3), (0, 2)], 0, [3])
# The uses 1: three go back over the entry and three over the exit.
FLOW = {(0, "save"): 3, (4, "save"): 3, (1, "back"): 3, (5, "back"): 3}


def is_flow(web, uses, prices, flow):
    """Whether a dict from arcs to numbers within their rooms is a flow, place by place."""
    ends = {arc: arc_ends(web, arc) for arc in flow}
    for arc, number in flow.items():
        if number > 0 and (ends[arc][0] == -1 or ends[arc][1] in uses.places):
            return False
    return all(
        sum(flow[arc] for arc in flow if ends[arc][0] == place)
        == sum(flow[arc] for arc in flow if ends[arc][1] == place)
        for place in range(web.places) if place not in uses.places
    )


class TestArcs(SeatCase):
    def test_arcs(self):
        self.assertEqual(
            arcs(DIAMOND), tuple((gate, word) for gate in range(6) for word in ("back", "save"))
        )
        self.assertEqual(arcs(POINT), ((0, "back"), (0, "save"), (1, "back"), (1, "save")))
        self.assertIs(arcs(POINT).__class__, tuple)

    def test_a_gate_from_a_place_to_itself_has_no_arcs(self):
        self.assertEqual(arcs(LOOP), ((1, "back"), (1, "save"), (2, "back"), (2, "save")))
        self.assertNotIn(0, [gate for gate, word in arcs(ROUNDS)])
        self.assertEqual(len(arcs(ROUNDS)), 2 * (ROUNDS.gates - 1))

    def test_arcs_are_ascending(self):
        rng = random.Random(22)
        for _ in range(30):
            web = drawn_web(rng, rng.randint(1, 6), 12)
            self.assertEqual(arcs(web), tuple(sorted(set(arcs(web)))))

    def test_ends(self):
        for arc, ends in (
            ((0, "save"), (1, 0)), ((0, "back"), (0, 1)), ((3, "save"), (3, 2)), ((3, "back"), (2, 3)),
            ((4, "save"), (0, -1)), ((4, "back"), (-1, 0)), ((5, "save"), (-1, 3)), ((5, "back"), (3, -1)),
        ):
            self.assertEqual(arc_ends(DIAMOND, arc), ends)
            self.assertEqual(arc_ends(DIAMOND, list(arc)), ends)
            self.assertIs(arc_ends(DIAMOND, arc).__class__, tuple)

    def test_ends_at_a_gate_from_a_place_to_itself(self):
        for word in ("save", "back"):
            self.assertEqual(arc_ends(LOOP, (0, word)), (0, 0))
            self.assertEqual(arc_ends(ROUNDS, [0, word]), (1, 1))

    def test_arcs_out_of_a_lot_are_its_marks(self):
        rng = random.Random(23)
        for _ in range(30):
            web = drawn_web(rng, rng.randint(1, 5), 9)
            for lot in all_lots(web, Lot([])):
                ends = {arc: arc_ends(web, arc) for arc in arcs(web)}
                out = {arc for arc in ends if ends[arc][0] in lot.places and ends[arc][1] not in lot.places}
                self.assertEqual(out, marks_of(web, lot))

    def test_errors(self):
        for number in (-1, 6, 99, None, "0", True):
            for word in ("save", "use"):
                self.raises(errors.NoGate, number, arc_ends, DIAMOND, (number, word))
        for word in ("", "Back", "saves", None, 0):
            self.raises(errors.BadWord, word, arc_ends, DIAMOND, (0, word))
            self.raises(errors.BadWord, word, arc_ends, LOOP, [0, word])


class TestValue(SeatCase):
    def test_values(self):
        self.assertEqual(value_of(DIAMOND, Lot([1]), PRICES, FLOW), 6)
        self.assertEqual(value_of(DIAMOND, Lot([1]), PRICES, {}), 0)
        self.assertEqual(value_of(DIAMOND, Lot([1]), PRICES, {(1, "back"): 2, (5, "back"): 2, (3, "save"): 0}), 2)

    def test_over_another_place(self):
        flow = {(1, "back"): 4, (3, "save"): 1, (2, "save"): 1, (4, "save"): 1, (5, "back"): 3}
        self.assertEqual(value_of(DIAMOND, Lot([1]), PRICES, flow), 4)

    def test_rooms(self):
        flow = {(1, "back"): 3, (5, "back"): 3}
        self.assertEqual(value_of(DIAMOND, Lot([1]), PRICES.with_price(1, "back", 3), flow), 3)
        self.assertIsNone(value_of(DIAMOND, Lot([1]), PRICES.with_price(1, "back", 2), flow))
        self.assertIsNone(value_of(DIAMOND, Lot([1]), PRICES, {(1, "back"): 4, (5, "back"): 4}))

    def test_the_room_none_is_without_bound(self):
        barred = PRICES.with_price(1, "back", None).with_price(5, "back", None)
        for number in (100001, 10 ** 30):
            flow = {(1, "back"): number, (5, "back"): number}
            self.assertEqual(value_of(DIAMOND, Lot([1]), barred, flow), number)

    def test_numbers_below_0(self):
        barred = Prices(DIAMOND, [None] * 6, [None] * 6)
        for number in (-1, -2, -(10 ** 30)):
            flow = {(1, "back"): number, (5, "back"): number}
            self.assertIsNone(value_of(DIAMOND, Lot([1]), PRICES, flow))
            self.assertIsNone(value_of(DIAMOND, Lot([1]), barred, flow))
            self.assertIsNone(value_of(DIAMOND, Lot([1]), PRICES, {(2, "save"): number, (2, "back"): number}))
            self.assertIsNone(value_of(DIAMOND, Lot([1]), PRICES, {**FLOW, (5, "save"): number}))

    def test_the_room_0(self):
        closed = PRICES.with_price(1, "back", 0)
        self.assertEqual(value_of(DIAMOND, Lot([1]), closed, {(1, "back"): 0}), 0)
        self.assertIsNone(value_of(DIAMOND, Lot([1]), closed, {(1, "back"): 1, (5, "back"): 1}))

    def test_arcs_to_uses(self):
        uses = Lot([1, 3])
        self.assertIsNone(value_of(DIAMOND, uses, PRICES, {(1, "back"): 1}))
        self.assertIsNone(value_of(DIAMOND, uses, PRICES, {(1, "back"): 1, (5, "back"): 1}))
        self.assertIsNone(value_of(DIAMOND, uses, PRICES, {(0, "back"): 1, (0, "save"): 1}))
        self.assertEqual(value_of(DIAMOND, uses, PRICES, {(1, "back"): 0, (5, "back"): 3}), 3)

    def test_arcs_from_outside(self):
        self.assertIsNone(value_of(DIAMOND, Lot([1]), PRICES, {(4, "back"): 1, (4, "save"): 1}))
        self.assertIsNone(value_of(POINT, Lot([]), Prices(POINT, [9, 9], [9, 9]), {(0, "back"): 1, (0, "save"): 1}))
        self.assertEqual(value_of(DIAMOND, Lot([1]), PRICES, {(4, "back"): 0, (5, "save"): 0}), 0)

    def test_places_that_are_no_uses(self):
        self.assertIsNone(value_of(DIAMOND, Lot([1]), PRICES, {(1, "back"): 2}))
        self.assertIsNone(value_of(DIAMOND, Lot([1]), PRICES, {(5, "back"): 2}))
        self.assertIsNone(value_of(DIAMOND, Lot([1]), PRICES, {(1, "back"): 2, (5, "back"): 1}))

    def test_rounds_that_touch_no_use(self):
        self.assertEqual(value_of(DIAMOND, Lot([1]), PRICES, {(2, "save"): 1, (2, "back"): 1}), 0)
        self.assertEqual(value_of(DIAMOND, Lot([]), PRICES, {(2, "save"): 1, (2, "back"): 1}), 0)

    def test_no_uses_and_all_places_as_uses(self):
        self.assertEqual(value_of(DIAMOND, Lot([]), PRICES, {}), 0)
        self.assertIsNone(value_of(DIAMOND, Lot([]), PRICES, {(5, "back"): 1}))
        self.assertEqual(value_of(DIAMOND, Lot(range(4)), PRICES, {(4, "save"): 3, (5, "back"): 2}), 5)

    def test_what_is_no_flow(self):
        loop = Prices(LOOP, [1, 1, 1], [1, 1, 1])
        for flow in (
            None, 0, 6, True, "", "flow", [], [((0, "save"), 3)], (), (FLOW,), set(), Lot([]),
            {(0, "save"): True}, {(0, "save"): False}, {(0, "save"): None}, {(0, "save"): "3"}, {(0, "save"): (3,)},
            {(0, "save"): 3.0}, {(0, "save"): 0.0}, {(0, "save"): -1}, {(0, "save"): []},
            {(6, "save"): 0}, {(-1, "save"): 0}, {(0, "use"): 0}, {(0, None): 0}, {(0, 0): 0}, {(None, "save"): 0},
            {("0", "save"): 0}, {("save", 0): 0}, {(True, "save"): 0}, {(False, "save"): 0}, {(0.0, "save"): 0},
            {(0,): 0}, {(0, "save", 0): 0}, {(): 0}, {0: 0}, {"save": 0}, {"ab": 0}, {None: 0}, {True: 0},
            {((0, "save"),): 0}, {((0, "save"), (0, "back")): 0}, {((0,), "save"): 0},
            {(0, ("save",)): 0}, {(0, "sav"): 0},
        ):
            with self.subTest(repr(flow)):
                self.assertIsNone(value_of(DIAMOND, Lot([1]), PRICES, flow))
                self.assertIs(shows_least(DIAMOND, Lot([]), PRICES, Lot([]), flow), False)
        # A gate from a place to itself has no arcs.
        self.assertIsNone(value_of(LOOP, Lot([]), loop, {(0, "save"): 0}))
        self.assertIsNone(value_of(LOOP, Lot([0]), loop, {(0, "back"): 1}))

    def test_true_for_a_gate_of_a_flow(self):
        # True is equal to 1, and finds its prices.
        self.assertIsNone(value_of(DIAMOND, Lot([1]), PRICES, {(True, "back"): 2, (5, "back"): 2}))
        self.assertIsNone(value_of(DIAMOND, Lot([1]), PRICES, {(1, "back"): True, (5, "back"): True}))

    def test_all_small_dicts(self):
        web = Web(2, [(0, 1)], 0, [1])
        prices = Prices(web, [1, 2, 0], [1, 0, None])
        for uses in all_lots(web, Lot([])):
            for numbers in itertools.product(range(3), repeat=6):
                flow = dict(zip(arcs(web), numbers))
                fits = all(prices[arc] is None or flow[arc] <= prices[arc] for arc in flow)
                told = None
                if fits and is_flow(web, uses, prices, flow):
                    told = sum(flow[arc] for arc in flow if arc_ends(web, arc)[0] in uses.places)
                self.assertEqual(value_of(web, uses, prices, flow), told)

    def test_errors_ahead_of_the_paper(self):
        for flow in (FLOW, None, {(0, "use"): -1}, []):
            self.raises(errors.BadPlace, 4, value_of, OTHER, Lot([5, 4]), PRICES, flow)
            self.raises(errors.OtherWeb, None, value_of, OTHER, Lot([1]), PRICES, flow)

    def test_arguments_are_not_changed(self):
        passed = (DIAMOND, Lot([1]), PRICES, dict(FLOW))
        kept = copy.deepcopy(passed)
        value_of(*passed)
        shows_least(*passed[:3], Lot([0, 1]), passed[3])
        self.assertEqual(passed, kept)


class TestShowsLeast(SeatCase):
    def test_papers(self):
        self.assertIs(shows_least(DIAMOND, Lot([1]), PRICES, Lot(range(4)), FLOW), True)
        self.assertIs(shows_least(DIAMOND, Lot([1]), PRICES, Lot([1]), FLOW), False)
        self.assertIs(shows_least(DIAMOND, Lot([1]), PRICES, Lot(range(4)), {}), False)
        self.assertIs(shows_least(DIAMOND, Lot([]), PRICES, Lot([]), {}), True)

    def test_uses_that_are_not_in_the_lot(self):
        self.assertIs(shows_least(DIAMOND, Lot([1]), PRICES, Lot([]), {}), False)
        # A flow of 6, which is the cost of the lot 0, 2 and 3 too if the marks at 1 cost nothing.
        cheap = PRICES.with_price(0, "back", 0).with_price(1, "save", 0)
        self.assertEqual(cost_of(DIAMOND, Lot([0, 2, 3]), cheap), 6)
        self.assertIs(shows_least(DIAMOND, Lot([1]), cheap, Lot(range(4)), FLOW), True)
        self.assertIs(shows_least(DIAMOND, Lot([1]), cheap, Lot([0, 2, 3]), FLOW), False)

    def test_no_flow_and_no_cost(self):
        # Neither has a number: that does not make them equal.
        barred = PRICES.with_price(0, "save", None)
        self.assertIsNone(cost_of(DIAMOND, Lot([1]), barred))
        for flow in (None, {}, FLOW, {(0, "save"): 1}):
            self.assertIs(shows_least(DIAMOND, Lot([1]), barred, Lot([1]), flow), False)

    def test_errors_ahead_of_the_paper(self):
        for flow in (FLOW, None, [], {(0, "use"): -1}):
            self.raises(errors.BadPlace, 4, shows_least, OTHER, Lot([4]), PRICES, Lot([5]), flow)
            self.raises(errors.OtherWeb, None, shows_least, OTHER, Lot([1]), PRICES, Lot([5]), flow)
            self.raises(errors.BadPlace, 5, shows_least, DIAMOND, Lot([1]), PRICES, Lot([6, 5]), flow)


class TestShowsBarred(SeatCase):
    def setUp(self):
        prices = PRICES.with_price(1, "back", None).with_price(5, "back", None)
        self.prices = prices.with_price(3, "save", None).with_price(2, "save", None)

    def shows(self, uses, row, prices=None):
        return shows_barred(DIAMOND, Lot(uses), prices or self.prices, row)

    def test_rows(self):
        row = ((1, "back"), (5, "back"))
        self.assertIs(self.shows([1], row), True)
        self.assertIs(self.shows([3], row[1:]), True)
        self.assertIs(self.shows([1, 2, 3], row), True)

    def test_rows_that_are_none(self):
        self.assertIs(self.shows([1], ((1, "back"),)), False)
        self.assertIs(self.shows([2], ((1, "back"), (5, "back"))), False)
        self.assertIs(self.shows([1], ((5, "back"),)), False)
        self.assertIs(self.shows([1], ((5, "back"), (1, "back"))), False)
        self.assertIs(self.shows([1], ((1, "back"), (1, "back"), (5, "back"))), False)
        self.assertIs(self.shows([1], ((1, "back"), (3, "save"), (5, "back"))), False)

    def test_rooms_that_are_not_none(self):
        row = ((1, "back"), (5, "back"))
        for arc in row:
            for price in (0, 100000):
                self.assertIs(self.shows([1], row, self.prices.with_price(*arc, price)), False)
        self.assertIs(self.shows([1], ((1, "save"), (5, "back"))), False)

    def test_the_empty_row(self):
        for uses in ([], [1], range(4)):
            self.assertIs(self.shows(uses, ()), False)

    def test_no_uses(self):
        self.assertIs(self.shows([], ((1, "back"), (5, "back"))), False)

    def test_a_row_that_begins_outside(self):
        prices = self.prices.with_price(5, "save", None)
        self.assertIs(self.shows([3], ((5, "save"), (5, "back")), prices), False)
        self.assertIs(self.shows([], ((5, "save"), (5, "back")), prices), False)

    def test_what_is_no_row(self):
        for row in (
            None, 0, True, "", "row", [], [(1, "back"), (5, "back")], {(1, "back"): 1, (5, "back"): 1}, {}, Lot([1]),
            ([1, "back"], [5, "back"]), ((1, "back"), [5, "back"]), ([1, "back"], (5, "back")),
            ((True, "back"), (5, "back")), ((1, "back"), (5, "back"), None), ((1, "back"), None), (None,), (1, 5),
            ("back", "back"), ("15",), (1, "back"), (5, "back"), ((1.0, "back"), (5, "back")),
            ((1, "back"), (6, "back")),
            ((1, "back"), (-1, "back")), ((1, "back"), (5, "use")), ((1,), (5,)), ((1, "back", 0), (5, "back", 0)),
            (((1, "back"), (5, "back")),), ((1, None), (5, None)), ((1, ["back"]), (5, "back")), (True, False), ((),),
            ({1: "back"}, {5: "back"}), (("1", "back"), ("5", "back")), ((1, "back"), (5, "back"), ()), (Lot([1]),),
        ):
            with self.subTest(repr(row)):
                self.assertIs(self.shows([1], row), False)
                self.assertIs(self.shows(range(4), row), False)

    def test_a_gate_from_a_place_to_itself_has_no_arcs(self):
        prices = Prices(LOOP, [None] * 3, [None] * 3)
        self.assertIs(shows_barred(LOOP, Lot([0]), prices, ((2, "back"),)), True)
        self.assertIs(shows_barred(LOOP, Lot([0]), prices, ((0, "back"), (2, "back"))), False)

    def test_all_rows_of_up_to_three_arcs(self):
        rng = random.Random(25)
        shown = 0
        for _ in range(25):
            web = drawn_web(rng, rng.randint(1, 3), 4)
            uses, prices = drawn_lot(rng, web), drawn_prices(rng, web, 3, 0.6)
            for length in range(4):
                for row in itertools.product(arcs(web), repeat=length):
                    places = [arc_ends(web, arc) for arc in row]
                    told = (
                        length > 0 and places[0][0] in uses.places and places[-1][1] == -1
                        and all(prices[arc] is None for arc in row)
                        and all(one[1] == two[0] for one, two in zip(places, places[1:]))
                    )
                    self.assertIs(shows_barred(web, uses, prices, row), told)
                    shown += told
                    if told:
                        self.assertTrue(all(cost_of(web, lot, prices) is None for lot in all_lots(web, uses)))
        self.assertGreater(shown, 50)

    def test_errors_ahead_of_the_paper(self):
        for row in (((1, "back"), (5, "back")), None, [], ((9, "use"),)):
            self.raises(errors.BadPlace, 4, shows_barred, OTHER, Lot([5, 4]), self.prices, row)
            self.raises(errors.OtherWeb, None, shows_barred, OTHER, Lot([1]), self.prices, row)


if __name__ == "__main__":
    unittest.main()
