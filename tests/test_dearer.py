"""Points 36 to 39: whether a lot is ever dearer than another one."""

import copy
import itertools
import random
import unittest

from savedseats import errors
from savedseats.dearer import Answer, along, dearer, shows_dearer, shows_never
from savedseats.lots import Lot
from savedseats.prices import Prices
from savedseats.webs import Web
from support import (
    DIAMOND, LOOP, NO_PAPERS, POINT, ROUNDS, SeatCase, all_lots, chain, cost_of, drawn_lot, drawn_prices, drawn_web,
    gates_along, goes_round, large_web, marks_of, near_papers, row_ends, whole_ways,
)

PRICES = Prices(DIAMOND, [5, 5, 1, 1, 3, 3], [5, 5, 1, 1, 3, 3])
OTHER = Web(4, [(0, 1), (1, 3), (2, 3), (0, 2)], 0, [3])
BACK = Web(4, [(0, 1), (1, 2), (2, 1), (2, 3)], 0, [3])
ALL = Lot(range(4))


def even(web, price):
    """The same price everywhere."""
    return Prices(web, [price] * web.gates, [price] * web.gates)


def along_of(web, prices, lot, way):
    """The cost of a lot along a whole way, gate by gate."""
    marks = marks_of(web, lot)
    worths = []
    for gate in gates_along(web, way):
        worths += [prices.saves[gate]] * ((gate, "save") in marks) + [prices.backs[gate]] * ((gate, "back") in marks)
    return None if None in worths else sum(worths)


def differences(web, prices, first, second):
    """The list of d of each gate."""
    worths = []
    for lot in (first, second):
        row = [0] * web.gates
        for gate, word in marks_of(web, lot):
            row[gate] = (prices.saves if word == "save" else prices.backs)[gate]
        worths.append(row)
    return [ours - theirs for ours, theirs in zip(*worths)]


def ever_dearer(web, prices, first, second, greatest):
    """Whether the first lot costs more along some whole way: the most that it does along ways of so many edges."""
    gaps = differences(web, prices, first, second)
    most = {web.entry: gaps[len(web.edges)]}
    # A round on which it costs more makes up for all that it costs less on the way there and out.
    for _ in range(web.places * (2 + 4 * greatest * (web.places + 2))):
        for place, gap in most.items():
            if place in web.exits and gap + gaps[web.gate_out(place)] > 0:
                return True
        found = dict(most)
        for edge, (begin, end) in enumerate(web.edges):
            if begin in most:
                found[end] = max(found.get(end, most[begin] + gaps[edge]), most[begin] + gaps[edge])
        if found == most:
            return False
        most = found
    return False


def firm(web, gaps, paper):
    """Whether the paper is a tuple of firm heights, from the text of the document."""
    if paper.__class__ is not tuple or len(paper) != web.places:
        return False
    if any(height.__class__ is not int for height in paper):
        return False
    return (
        paper[web.entry] >= gaps[len(web.edges)]
        and all(paper[end] >= paper[begin] + gaps[edge] for edge, (begin, end) in enumerate(web.edges))
        and all(paper[place] + gaps[web.gate_out(place)] <= 0 for place in web.exits)
    )


def dear(web, gaps, paper):
    """Whether the paper is a whole way or a triple that shows that the first lot is dearer, from the document."""
    if goes_round(web, paper):
        return sum(gaps[edge] for edge in paper[1]) > 0
    return row_ends(web, web.entry, paper) in web.exits and sum(gaps[gate] for gate in gates_along(web, paper)) > 0


class DearerCase(SeatCase):
    def check_answer(self, web, prices, first, second):
        """Check the form of what dearer returns, and that its paper shows it; return what it found."""
        answer = dearer(web, prices, first, second)
        gaps = differences(web, prices, first, second)
        self.assertIs(answer.__class__, Answer)
        self.assertIn(answer.found, (True, False))
        self.assertIs(bool(answer), answer.found)
        self.assertIs(dear(web, gaps, answer.paper), answer.found)
        self.assertIs(firm(web, gaps, answer.paper), not answer.found)
        self.assertIs(shows_dearer(web, prices, first, second, answer.paper), answer.found)
        self.assertIs(shows_never(web, prices, first, second, answer.paper), not answer.found)
        return answer.found


class TestAnswer(unittest.TestCase):
    def test_it_holds_the_very_objects(self):
        paper = [1, [2]]
        answer = Answer(True, paper)
        self.assertEqual(list(vars(answer)), ["found", "paper"])
        self.assertIs(answer.found, True)
        self.assertIs(answer.paper, paper)
        heights = (0, -1)
        self.assertIs(Answer(paper=heights, found=False).paper, heights)

    def test_truth(self):
        self.assertIs(bool(Answer(True, ())), True)
        self.assertIs(bool(Answer(True, None)), True)
        self.assertIs(bool(Answer(False, (0, 1))), False)


class TestAlong(SeatCase):
    def test_costs(self):
        self.assertEqual(along(DIAMOND, PRICES, Lot([1]), (0, 1)), 10)
        self.assertEqual(along(DIAMOND, PRICES, Lot([1]), (2, 3)), 0)
        self.assertEqual(along(DIAMOND, PRICES, ALL, (0, 1)), 6)
        self.assertEqual(along(DIAMOND, PRICES, Lot([0, 1]), (0, 1)), 8)
        self.assertEqual(along(DIAMOND, PRICES, Lot([0, 1]), (2, 3)), 4)
        self.assertEqual(along(DIAMOND, PRICES, Lot([]), (2, 3)), 0)

    def test_saves_and_backs_have_their_own_prices(self):
        prices = Prices(DIAMOND, [1, 2, 4, 8, 16, 32], [64, 128, 256, 512, 1024, 2048])
        self.assertEqual(along(DIAMOND, prices, Lot([1]), (0, 1)), 1 + 128)
        self.assertEqual(along(DIAMOND, prices, ALL, (0, 1)), 16 + 2048)
        self.assertEqual(along(DIAMOND, prices, Lot([0, 3]), (2, 3)), 16 + 256 + 8 + 2048)

    def test_a_way_that_goes_through_a_gate_more_than_once(self):
        prices = Prices(BACK, [1, 10, 100, 1000, 0, 0], [2, 20, 200, 2000, 0, 0])
        self.assertEqual(along(BACK, prices, Lot([2]), (0, 1, 3)), 10 + 2000)
        self.assertEqual(along(BACK, prices, Lot([2]), (0, 1, 2, 1, 2, 1, 3)), 3 * 10 + 2 * 200 + 2000)
        self.assertEqual(along(LOOP, even(LOOP, 7), Lot([0]), (0, 0, 0)), 14)

    def test_the_empty_way(self):
        self.assertEqual(along(POINT, Prices(POINT, [3, None], [None, 4]), Lot([0]), ()), 7)
        self.assertEqual(along(POINT, even(POINT, None), Lot([]), ()), 0)
        self.assertIsNone(along(POINT, Prices(POINT, [None, 0], [0, 4]), Lot([0]), ()))

    def test_prices_of_none_at_the_gates_of_the_way_alone(self):
        prices = PRICES.with_price(2, "save", None)
        self.assertEqual(along(DIAMOND, prices, Lot([1, 2]), (0, 1)), 10)
        self.assertIsNone(along(DIAMOND, prices, Lot([1, 2]), (2, 3)))
        self.assertEqual(along(DIAMOND, prices, Lot([1]), (2, 3)), 0)
        self.assertEqual(along(DIAMOND, prices, Lot([0, 1]), (2, 3)), 4)

    def test_lists_as_ways(self):
        self.assertEqual(along(DIAMOND, PRICES, Lot([1]), [0, 1]), 10)
        self.assertEqual(along(POINT, even(POINT, 2), Lot([0]), []), 4)

    def test_all_short_ways_of_drawn_webs(self):
        rng = random.Random(36)
        found = []
        for _ in range(80):
            web = drawn_web(rng, rng.randint(1, 5), 8)
            prices = drawn_prices(rng, web, 9, rng.choice((0, 0.2)))
            lot = drawn_lot(rng, web)
            for way in whole_ways(web, 4)[:60]:
                found.append(along(web, prices, lot, way))
                self.assertEqual(found[-1], along_of(web, prices, lot, way))
        self.assertTrue({None, 0, 1, 20} < set(found))

    def test_order_of_errors(self):
        self.raises(errors.OtherWeb, None, along, OTHER, PRICES, Lot([4]), (1,))
        self.raises(errors.BadPlace, 4, along, DIAMOND, PRICES, Lot([5, 4]), (1,))
        self.raises(errors.BadWay, 1, along, DIAMOND, PRICES, Lot([1]), (0, 0))
        self.raises(errors.BadWay, 0, along, DIAMOND, PRICES, Lot([1]), (4,))
        self.raises(errors.BadWay, 0, along, DIAMOND, PRICES, Lot([1]), (-1,))
        self.raises(errors.NotWhole, 1, along, DIAMOND, PRICES, Lot([1]), (0,))
        self.raises(errors.NotWhole, 0, along, DIAMOND, PRICES, Lot([1]), ())
        self.raises(errors.NotWhole, 0, along, DIAMOND, even(DIAMOND, None), ALL, ())

    def test_arguments_are_not_changed(self):
        passed = (BACK, even(BACK, 1), Lot([2]), [0, 1, 2, 1, 3])
        kept = copy.deepcopy(passed)
        along(*passed)
        self.assertEqual(passed, kept)


class TestDearer(DearerCase):
    def test_a_way(self):
        answer = dearer(DIAMOND, PRICES, Lot([1]), ALL)
        self.assertEqual((answer.found, answer.paper), (True, (0, 1)))
        answer = dearer(DIAMOND, PRICES, ALL, Lot([1]))
        self.assertEqual((answer.found, answer.paper), (True, (2, 3)))

    def test_never(self):
        self.assertIs(self.check_answer(DIAMOND, PRICES, Lot([]), Lot([1])), False)
        self.assertIs(self.check_answer(DIAMOND, PRICES, Lot([1]), Lot([0, 1, 3])), True)
        self.assertIs(self.check_answer(DIAMOND, PRICES, Lot([2]), ALL), False)
        self.assertIs(self.check_answer(DIAMOND, PRICES, Lot([]), Lot([])), False)

    def test_the_same_lot(self):
        for web in (DIAMOND, ROUNDS, POINT, LOOP, BACK):
            for lot in all_lots(web, Lot([])):
                self.assertIs(self.check_answer(web, even(web, 3), lot, lot), False)

    def test_the_empty_lot_and_the_lot_of_all_places(self):
        for web in (DIAMOND, ROUNDS, POINT, LOOP, BACK, chain(24)):
            empty, full = Lot([]), Lot(range(web.places))
            self.assertIs(self.check_answer(web, even(web, 1), full, empty), True)
            self.assertIs(self.check_answer(web, even(web, 1), empty, full), False)
            self.assertIs(self.check_answer(web, even(web, 0), full, empty), False)
            self.assertIs(self.check_answer(web, even(web, None), empty, empty), False)

    def test_the_empty_way(self):
        self.assertEqual(dearer(POINT, even(POINT, 1), Lot([0]), Lot([])).paper, ())
        answer = dearer(POINT, even(POINT, 1), Lot([]), Lot([0]))
        self.assertIs(answer.found, False)
        self.assertIs(firm(POINT, [-1, -1], answer.paper), True)

    def test_a_round_on_which_the_first_lot_costs_more(self):
        # On the whole way without a round the first lot costs less.
        prices = Prices(BACK, [0, 1, 1, 0, 50, 0], [0, 1, 1, 0, 0, 50])
        self.assertIs(self.check_answer(BACK, prices, Lot([2]), ALL), True)
        self.assertIs(self.check_answer(BACK, prices, Lot([1]), ALL), True)
        self.assertIs(self.check_answer(BACK, prices, Lot([1, 2]), ALL), False)
        for paper in ((0, 1, 3), (0,) + (1, 2) * 49 + (1, 3)):
            self.assertIs(shows_dearer(BACK, prices, Lot([2]), ALL, paper), False)
        self.assertIs(shows_dearer(BACK, prices, Lot([2]), ALL, (0,) + (1, 2) * 50 + (1, 3)), True)

    def test_a_round_on_which_both_cost_as_much(self):
        # The price of the round's save for the first lot is that of its back for the second one.
        prices = Prices(BACK, [9, 4, 9, 0, 9, 9], [9, 9, 3, 0, 9, 9])
        second = Lot([1, 3])
        gaps = differences(BACK, prices, Lot([2]), second)
        self.assertEqual(self.check_answer(BACK, prices, Lot([2]), second), gaps[1] + gaps[2] > 0)
        prices = prices.with_price(1, "back", 4).with_price(2, "save", 3).with_price(0, "save", 0)
        self.assertIs(self.check_answer(BACK, prices, Lot([2, 3]), Lot([1])), True)

    def test_edges_from_a_place_to_itself(self):
        web = Web(2, [(0, 0), (0, 1), (1, 1)], 0, [1])
        for first, second in itertools.product(all_lots(web, Lot([])), repeat=2):
            told = cost_of(web, first, even(web, 1)) > cost_of(web, second, even(web, 1))
            self.assertIs(self.check_answer(web, even(web, 1), first, second), told)

    def test_barred(self):
        prices = PRICES.with_price(0, "save", None)
        for first, second, index in ((Lot([1]), ALL, 0), (ALL, Lot([1]), 1), (Lot([1]), Lot([1]), 0)):
            self.raises(errors.Barred, index, dearer, DIAMOND, prices, first, second)
            self.raises(errors.Barred, index, shows_dearer, DIAMOND, prices, first, second, (0, 1))
            self.raises(errors.Barred, index, shows_never, DIAMOND, prices, first, second, None)
        # Where neither lot has a mark, None bars nothing.
        self.assertIs(self.check_answer(DIAMOND, prices, Lot([2]), ALL), False)
        self.assertIs(self.check_answer(DIAMOND, prices.with_price(0, "back", None), ALL, Lot([2])), True)

    def test_barred_at_marks_of_the_first_the_second_or_both(self):
        prices = PRICES.with_price(0, "save", None).with_price(2, "save", None)
        self.raises(errors.Barred, 0, dearer, DIAMOND, prices, Lot([1]), Lot([2]))
        self.raises(errors.Barred, 0, dearer, DIAMOND, prices, Lot([1]), Lot([]))
        self.raises(errors.Barred, 1, dearer, DIAMOND, prices, Lot([]), Lot([2]))
        prices = PRICES.with_price(4, "save", None)
        self.raises(errors.Barred, 0, dearer, DIAMOND, prices, Lot([0]), Lot([0, 1]))
        self.raises(errors.Barred, 1, dearer, DIAMOND, prices, Lot([1]), Lot([0, 1]))

    def test_drawn_webs_by_walking(self):
        rng = random.Random(37)
        found, papers = [], set()
        for _ in range(1500):
            web = drawn_web(rng, rng.randint(1, 5), rng.choice((5, 8, 14)))
            greatest = rng.choice((1, 2, 4))
            prices = drawn_prices(rng, web, greatest, rng.choice((0, 0, 0.1)))
            first, second = drawn_lot(rng, web), drawn_lot(rng, web)
            if cost_of(web, first, prices) is None or cost_of(web, second, prices) is None:
                continue
            told = ever_dearer(web, prices, first, second, greatest)
            self.assertIs(self.check_answer(web, prices, first, second), told)
            found.append(told)
            papers.add((told, goes_round(web, dearer(web, prices, first, second).paper)))
            ways = [way for way in whole_ways(web, 4)[:40]]
            if not told:
                for way in ways:
                    ours, theirs = [along_of(web, prices, lot, way) for lot in (first, second)]
                    self.assertLessEqual(ours, theirs)
        self.assertTrue(all(found.count(told) > 200 for told in (True, False)))
        self.assertEqual(papers, {(True, True), (True, False), (False, False)})

    def test_webs_of_24_places(self):
        rng = random.Random(370)
        found, rounds = [], []
        for _ in range(100):
            web = large_web(rng, 24, rng.choice((23, 25, 30, 80)))
            prices = drawn_prices(rng, web, rng.choice((1, 3, 100000)), 0)
            lot = drawn_lot(rng, web)
            for first, second in (
                (lot, drawn_lot(rng, web)), (lot, Lot(range(24))), (Lot(range(24)), lot),
                (lot, lot | drawn_lot(rng, web, 2)), (lot | drawn_lot(rng, web, 2), lot), (Lot([]), lot),
            ):
                found.append(self.check_answer(web, prices, first, second))
                rounds.append(goes_round(web, dearer(web, prices, first, second).paper))
        for told in (True, False):
            self.assertGreater(found.count(told), 50)
            self.assertGreater(rounds.count(told), 50)

    def test_order_of_errors(self):
        barred = even(DIAMOND, None)
        for told, rest in ((dearer, ()), (shows_dearer, (None,)), (shows_never, ((0, 1),)), (shows_dearer, ((0, 1),))):
            self.raises(errors.OtherWeb, None, told, OTHER, PRICES, Lot([4]), Lot([5]), *rest)
            self.raises(errors.BadPlace, 4, told, DIAMOND, barred, Lot([9, 4]), Lot([3]), *rest)
            self.raises(errors.BadPlace, 4, told, DIAMOND, barred, Lot([9, 4]), Lot([5]), *rest)
            self.raises(errors.BadPlace, 5, told, DIAMOND, barred, Lot([1]), Lot([9, 5]), *rest)
            self.raises(errors.Barred, 0, told, DIAMOND, barred, Lot([1]), Lot([2]), *rest)
            self.raises(errors.Barred, 1, told, DIAMOND, barred, Lot([]), Lot([2]), *rest)

    def test_arguments_are_not_changed(self):
        passed = (BACK, even(BACK, 1), Lot([2]), Lot([1, 2]))
        kept = copy.deepcopy(passed)
        dearer(*passed)
        dearer(BACK, passed[1], passed[3], passed[2])
        shows_dearer(*passed, ((0,), (1, 2), (1, 3)))
        shows_never(*passed, (0, 0, 0, 0))
        self.assertEqual(passed, kept)


class TestPapers(DearerCase):
    def both(self, *passed):
        return [shows_dearer(*passed), shows_never(*passed)]

    def test_ways(self):
        passed = (DIAMOND, PRICES, Lot([1]), ALL)
        for way, told in (((0, 1), True), ((2, 3), False), ((0,), False), ((), False), ((0, 3), False)):
            self.assertEqual(self.both(*passed, way), [told, False])
        # Costs that are equal show nothing.
        self.assertEqual(self.both(DIAMOND, even(DIAMOND, 3), Lot([1]), ALL, (0, 1)), [False, False])
        self.assertEqual(self.both(LOOP, even(LOOP, 1), Lot([0]), Lot([]), (0, 0)), [True, False])

    def test_the_empty_tuple_is_a_way(self):
        self.assertEqual(self.both(POINT, even(POINT, 1), Lot([0]), Lot([]), ()), [True, False])
        self.assertEqual(self.both(POINT, even(POINT, 0), Lot([0]), Lot([]), ()), [False, False])
        self.assertEqual(self.both(DIAMOND, PRICES, ALL, Lot([]), ()), [False, False])

    def test_triples(self):
        prices = Prices(BACK, [0, 1, 1, 0, 50, 0], [0, 1, 1, 0, 0, 50])
        passed = (BACK, prices, Lot([2]), ALL)
        for paper in (((0,), (1, 2), (1, 3)), ((0, 1), (2, 1), (3,)), ((0, 1, 2), (1, 2, 1, 2), (1, 2, 1, 3))):
            self.assertEqual(self.both(*passed, paper), [True, False])
            self.assertEqual(self.both(BACK, prices, ALL, Lot([2]), paper), [False, False])
            self.assertEqual(self.both(BACK, prices, Lot([1]), Lot([2]), paper), [False, False])
        for paper in (
            ((0,), (), (1, 3)), ((0,), (1,), (3,)), ((0, 1), (1, 2), (1, 3)), ((0,), (2, 1), (1, 3)),
            ((0,), (1, 2), (3,)), ((0,), (1, 2), (1,)), ((0,), (1, 2), ()), ((), (1, 2), (1, 3)), ((1,), (2, 1), (3,)),
            ((0,), (1, 2), (1, 3), ()), ((0,), (1, 2)), [(0,), (1, 2), (1, 3)], ([0], (1, 2), (1, 3)),
            ((0,), [1, 2], (1, 3)), ((0,), (1, 2), [1, 3]), ((0,), (True, 2), (1, 3)), ((False,), (1, 2), (1, 3)),
        ):
            self.assertEqual(self.both(*passed, paper), [False, False], paper)

    def test_a_triple_whose_on_is_empty(self):
        web = Web(2, [(0, 1), (1, 0)], 0, [0])
        self.assertEqual(self.both(web, even(web, 1), Lot([1]), Lot([]), ((), (0, 1), ())), [True, False])
        self.assertEqual(self.both(web, even(web, 1), Lot([1]), Lot([]), ((0,), (1, 0), ())), [False, False])
        self.assertEqual(self.both(web, even(web, 0), Lot([1]), Lot([]), ((), (0, 1), ())), [False, False])

    def test_the_sum_on_the_round_alone_counts(self):
        # Beside the round the first lot costs a lot more, on it as much as the second one.
        prices = Prices(BACK, [90, 1, 1, 90, 90, 90], [90, 1, 1, 90, 90, 90])
        self.assertIs(shows_dearer(BACK, prices, Lot([2]), Lot([1]), ((0,), (1, 2), (1, 3))), False)
        self.assertIs(shows_dearer(BACK, prices, Lot([0, 2]), Lot([]), ((0,), (1, 2), (1, 3))), True)
        self.assertIs(shows_dearer(BACK, prices, Lot([0]), Lot([]), ((0,), (1, 2), (1, 3))), False)

    def test_all_heights_of_a_small_web(self):
        web = Web(3, [(0, 1), (1, 2), (0, 2), (1, 1)], 0, [2, 1])
        for first, second in itertools.product(all_lots(web, Lot([])), repeat=2):
            prices = Prices(web, [1, 0, 1, 0, 1, 0, 1], [1, 1, 2, 0, 0, 1, 2])
            gaps = differences(web, prices, first, second)
            for heights in itertools.product(range(-3, 3), repeat=3):
                self.assertIs(shows_never(web, prices, first, second, heights), firm(web, gaps, heights))

    def test_heights_below_0(self):
        self.assertEqual(self.both(POINT, even(POINT, 2), Lot([]), Lot([0]), (-2,)), [False, True])
        self.assertEqual(self.both(POINT, even(POINT, 2), Lot([]), Lot([0]), (-3,)), [False, False])
        self.assertEqual(self.both(POINT, even(POINT, 2), Lot([]), Lot([0]), (2,)), [False, True])
        self.assertEqual(self.both(POINT, even(POINT, 2), Lot([]), Lot([0]), (3,)), [False, False])
        self.assertEqual(self.both(POINT, even(POINT, 2), Lot([]), Lot([0]), (-10 ** 30,)), [False, False])

    def test_a_tuple_may_be_a_way_and_heights(self):
        # Read as a way (0, 0) is whole, read as heights it is firm where nothing costs.
        web = Web(2, [(0, 0), (0, 1)], 0, [1, 0])
        self.assertEqual(self.both(web, even(web, 0), ALL & Lot([0, 1]), Lot([]), (0, 0)), [False, True])
        self.assertEqual(self.both(web, even(web, 1), Lot([0]), Lot([]), (0, 0)), [True, False])

    def test_what_is_no_paper(self):
        for paper in NO_PAPERS:
            for web, first, second in (
                (DIAMOND, Lot([1]), Lot([])), (DIAMOND, Lot([]), Lot([1])), (DIAMOND, ALL, Lot([])),
                (BACK, Lot([2]), Lot([])), (LOOP, Lot([0]), Lot([])), (POINT, Lot([0]), Lot([])),
                (BACK, Lot([2]), ALL), (ROUNDS, Lot([0]), Lot([])),
            ):
                with self.subTest(repr(paper)):
                    self.assertEqual(self.both(web, even(web, 1), first, second, paper), [False, False])

    def test_truths_are_no_numbers(self):
        self.assertEqual(self.both(DIAMOND, PRICES, Lot([1]), ALL, (False, True)), [False, False])
        self.assertEqual(self.both(DIAMOND, PRICES, Lot([1]), ALL, (0, True)), [False, False])
        never = (DIAMOND, PRICES, Lot([]), Lot([]))
        self.assertEqual(self.both(*never, (0, 0, 0, 0)), [False, True])
        for heights in ((False,) * 4, (0, 0, 0, False), (0, 0, None, 0), (0, "0", 0, 0), (0, 0, 0, 0.0), [0, 0, 0, 0]):
            self.assertEqual(self.both(*never, heights), [False, False])
        for heights in ((0, 0, 0), (0, 0, 0, 0, 0), (), 0, None, (1, 1, 1, 1), (-1, 0, 0, 0), (0, -1, 0, 0)):
            self.assertEqual(self.both(*never, heights), [False, False])

    def test_papers_near_right_ones(self):
        rng = random.Random(39)
        found = []
        for _ in range(300):
            web = drawn_web(rng, rng.randint(1, 4), 8)
            prices = drawn_prices(rng, web, 3, 0)
            first, second = drawn_lot(rng, web), drawn_lot(rng, web)
            gaps = differences(web, prices, first, second)
            paper = dearer(web, prices, first, second).paper
            papers = near_papers(rng, paper)
            for inner in range(len(paper)):
                if isinstance(paper[inner], tuple):
                    for near in near_papers(rng, paper[inner]):
                        papers.append(paper[:inner] + (near,) + paper[inner + 1:])
            for near in papers:
                told = [dear(web, gaps, near), firm(web, gaps, near)]
                self.assertEqual(self.both(web, prices, first, second, near), told, near)
                found.append(told)
        self.assertTrue(all(found.count(told) > 50 for told in ([True, False], [False, True], [False, False])))

    def test_way_of_1000_edges(self):
        self.assertEqual(self.both(LOOP, even(LOOP, 1), Lot([0]), Lot([]), (0,) * 1000), [True, False])


if __name__ == "__main__":
    unittest.main()
