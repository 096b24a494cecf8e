"""Points 31 to 33: saves on a way."""

import copy
import itertools
import random
import unittest

from savedseats import errors
from savedseats.lots import Lot
from savedseats.onway import Most, most_saves, shows_most
from savedseats.webs import Web
from support import (
    DIAMOND, LOOP, NO_PAPERS, POINT, ROUNDS, SeatCase, all_lots, chain, drawn_lot, drawn_web, gates_along, goes_round,
    large_web, marks_of, near_papers, row_ends, walked,
)

# From 2 the way can come back to 1; from 3 it can't.
BACK = Web(4, [(0, 1), (1, 2), (2, 1), (2, 3)], 0, [3])


def saves_of(web, lot):
    """The set of the gates with a save by the placing of a lot."""
    return {gate for gate, word in marks_of(web, lot) if word == "save"}


def most_of(web, lot):
    """The most saves of one whole way, by walking; None if there is no end to them."""
    saves = saves_of(web, lot)
    # With more saves than places, a way has come into the lot by one place twice, and can do so again.
    seen = walked(
        web, int(len(web.edges) in saves), lambda number, edge, end: min(number + (edge in saves), web.places + 1)
    )
    if max(number for _, number in seen) > web.places:
        return None
    return max(number for place, number in seen if place in web.exits)


def shows(web, lot, number, paper):
    """Whether the paper shows the number, from the text of the document."""
    saves = saves_of(web, lot)
    if number is None:
        return goes_round(web, paper) and any(edge in saves for edge in paper[1])
    if number.__class__ is not int or paper.__class__ is not tuple or len(paper) != 2:
        return False
    way, heights = paper
    if row_ends(web, web.entry, way) not in web.exits or heights.__class__ is not tuple:
        return False
    if len(heights) != web.places or any(height.__class__ is not int for height in heights):
        return False
    return (
        sum(gate in saves for gate in gates_along(web, way)) == number
        and heights[web.entry] >= (len(web.edges) in saves)
        and all(heights[end] >= heights[begin] + (edge in saves) for edge, (begin, end) in enumerate(web.edges))
        and all(heights[place] <= number for place in web.exits)
    )


class MostCase(SeatCase):
    def check_most(self, web, lot):
        """Check the form of what most_saves returns, and that its paper shows it; return the number."""
        most = most_saves(web, lot)
        self.assertIs(most.__class__, Most)
        self.assertIs(shows(web, lot, most.number, most.paper), True)
        self.assertIs(shows_most(web, lot, most.number, most.paper), True)
        return most.number


class TestMost(unittest.TestCase):
    def test_it_holds_the_very_objects(self):
        paper = [1, [2]]
        most = Most(2, paper)
        self.assertEqual(list(vars(most)), ["number", "paper"])
        self.assertEqual(most.number, 2)
        self.assertIs(most.paper, paper)
        number = 10 ** 9
        self.assertIs(Most(paper=None, number=number).number, number)
        self.assertIsNone(Most(None, ()).number)


class TestMostSaves(MostCase):
    def test_the_empty_lot_and_the_lot_of_all_places(self):
        for web in (DIAMOND, ROUNDS, POINT, LOOP, BACK, chain(24)):
            self.assertEqual(self.check_most(web, Lot([])), 0)
            self.assertEqual(self.check_most(web, Lot(range(web.places))), 1)

    def test_an_edge_with_a_save_and_whether_the_way_can_come_back(self):
        self.assertIsNone(self.check_most(BACK, Lot([2])))
        self.assertIsNone(self.check_most(BACK, Lot([1])))
        self.assertIsNone(self.check_most(BACK, Lot([0, 2])))
        self.assertEqual(self.check_most(BACK, Lot([1, 2])), 1)
        self.assertEqual(self.check_most(BACK, Lot([0, 3])), 2)
        self.assertEqual(self.check_most(BACK, Lot([3])), 1)
        self.assertEqual(self.check_most(BACK, Lot([0])), 1)

    def test_ways_that_leave_and_come_again(self):
        web = chain(24)
        self.assertEqual(self.check_most(web, Lot(range(0, 24, 2))), 12)
        self.assertEqual(self.check_most(web, Lot(range(1, 24, 2))), 12)
        self.assertEqual(self.check_most(web, Lot(range(0, 24, 3))), 8)
        # The shorter way to 4 has two saves, the longer one three.
        web = Web(6, [(0, 4), (0, 1), (1, 2), (2, 3), (3, 4), (4, 5)], 0, [5])
        self.assertEqual(self.check_most(web, Lot([0, 2, 4])), 3)
        self.assertEqual(most_saves(web, Lot([0, 2, 4])).paper[0], (1, 2, 3, 4, 5))

    def test_the_exit_with_the_most_saves(self):
        web = Web(4, [(0, 1), (1, 2), (2, 3)], 0, [1, 3])
        self.assertEqual(self.check_most(web, Lot([1, 3])), 2)
        web = Web(4, [(0, 2), (2, 3), (0, 1)], 0, [1, 3])
        self.assertEqual(self.check_most(web, Lot([1, 3])), 1)
        self.assertEqual(self.check_most(web, Lot([1])), 1)
        self.assertEqual(self.check_most(web, Lot([3])), 1)

    def test_edges_from_a_place_to_itself(self):
        self.assertEqual(self.check_most(LOOP, Lot([0])), 1)
        self.assertEqual(self.check_most(LOOP, Lot([])), 0)
        web = Web(3, [(0, 0), (0, 1), (1, 1), (1, 2), (2, 2)], 0, [2])
        for lot in all_lots(web, Lot([])):
            self.assertIsNotNone(self.check_most(web, lot))
        self.assertEqual(self.check_most(web, Lot([0, 2])), 2)

    def test_a_save_at_in_alone_has_no_round(self):
        # The entry is on a round, and the way comes into the lot by IN only.
        self.assertEqual(self.check_most(ROUNDS, Lot([0, 1, 2])), 1)
        self.assertEqual(self.check_most(Web(2, [(0, 1), (1, 1)], 0, [1]), Lot([0])), 1)

    def test_papers(self):
        self.assertEqual(most_saves(POINT, Lot([0])).paper, ((), (1,)))
        self.assertEqual(most_saves(POINT, Lot([])).paper, ((), (0,)))
        way, heights = most_saves(DIAMOND, Lot([1])).paper
        self.assertEqual((way, heights[3]), ((0, 1), 1))
        to, turn, on = most_saves(BACK, Lot([2])).paper
        self.assertEqual(sorted(turn), [1, 2])

    def test_drawn_webs_by_walking(self):
        rng = random.Random(31)
        found = []
        for _ in range(250):
            web = drawn_web(rng, rng.randint(1, 6), rng.choice((6, 10, 20)))
            for lot in all_lots(web, Lot([])):
                number = self.check_most(web, lot)
                self.assertEqual(number, most_of(web, lot))
                found.append(number)
        for number in (None, 0, 1, 2):
            self.assertGreater(found.count(number), 20)
        self.assertIn(3, found)

    def test_webs_of_24_places(self):
        rng = random.Random(310)
        found = []
        for _ in range(60):
            web = large_web(rng, 24, rng.choice((23, 25, 28, 80)))
            for lot in (drawn_lot(rng, web), drawn_lot(rng, web, 3), Lot([]), Lot(range(24))):
                number = self.check_most(web, lot)
                self.assertEqual(number, most_of(web, lot))
                found.append(number)
        self.assertTrue({None, 0, 1, 2, 3} < set(found))

    def test_webs_without_rounds(self):
        rng = random.Random(311)
        for _ in range(60):
            pairs = [(begin, end) for begin, end in itertools.combinations(range(24), 2) if end > begin + 1]
            web = Web(24, [(at, at + 1) for at in range(23)] + rng.sample(pairs, 57), 0, [23])
            lot = drawn_lot(rng, web)
            self.assertEqual(self.check_most(web, lot), most_of(web, lot))

    def test_bad_place(self):
        self.raises(errors.BadPlace, 4, most_saves, DIAMOND, Lot([9, 4, 5, 1]))
        self.raises(errors.BadPlace, 1, most_saves, POINT, Lot([1]))

    def test_arguments_are_not_changed(self):
        passed = (BACK, Lot([2]))
        kept = copy.deepcopy(passed)
        most_saves(*passed)
        most_saves(BACK, Lot([1, 2]))
        shows_most(*passed, None, ((0,), (1, 2), (1, 3)))
        self.assertEqual(passed, kept)


class TestShowsMost(MostCase):
    def test_pairs(self):
        lot = Lot([1, 2])
        self.assertIs(shows_most(BACK, lot, 1, ((0, 1, 3), (0, 1, 1, 1))), True)
        self.assertIs(shows_most(BACK, lot, 1, ((0, 1, 2, 1, 3), (0, 1, 1, 1))), True)
        self.assertIs(shows_most(BACK, lot, 0, ((0, 1, 3), (0, 1, 1, 1))), False)
        self.assertIs(shows_most(BACK, lot, 2, ((0, 1, 3), (0, 1, 1, 2))), False)
        self.assertIs(shows_most(BACK, lot, 1, ((0, 1), (0, 1, 1, 1))), False)
        self.assertIs(shows_most(BACK, lot, 1, ((0, 1, 3), (0, 1, 1, 1, 1))), False)
        self.assertIs(shows_most(BACK, lot, 1, ((0, 1, 3), (0, 1, 1))), False)
        self.assertIs(shows_most(BACK, lot, 1, ((0, 1, 3), ())), False)

    def test_heights(self):
        # No heights but those of the entry, 0 or more, and of the places behind it, are good.
        lot = Lot([1])
        for heights in itertools.product((-2, -1, 0, 1, 2), repeat=4):
            told = shows_most(DIAMOND, lot, 1, ((0, 1), heights))
            self.assertIs(told, shows(DIAMOND, lot, 1, ((0, 1), heights)))
        self.assertIs(shows_most(DIAMOND, lot, 1, ((0, 1), (0, 1, 1, 1))), True)
        self.assertIs(shows_most(DIAMOND, lot, 1, ((0, 1), (-1, 0, 0, 1))), False)

    def test_heights_at_in(self):
        self.assertIs(shows_most(POINT, Lot([0]), 1, ((), (1,))), True)
        self.assertIs(shows_most(POINT, Lot([0]), 1, ((), (0,))), False)
        self.assertIs(shows_most(POINT, Lot([0]), 1, ((), (2,))), False)
        self.assertIs(shows_most(POINT, Lot([0]), 0, ((), (0,))), False)
        self.assertIs(shows_most(POINT, Lot([]), 0, ((), (0,))), True)
        self.assertIs(shows_most(POINT, Lot([]), 0, ((), (-1,))), False)
        self.assertIs(shows_most(LOOP, Lot([0]), 1, ((0, 0), (1,))), True)

    def test_triples(self):
        lot = Lot([2])
        for paper in (((0,), (1, 2), (1, 3)), ((0, 1), (2, 1), (3,)), ((0, 1, 2), (1, 2, 1, 2), (1, 2, 1, 3))):
            self.assertIs(shows_most(BACK, lot, None, paper), True)
            # The round has no save here.
            self.assertIs(shows_most(BACK, Lot([1, 2]), None, paper), False)
            self.assertIs(shows_most(BACK, Lot([0, 3]), None, paper), False)
            for number in (0, 1, 2, -1):
                self.assertIs(shows_most(BACK, lot, number, paper), False)
        for paper in (
            ((0,), (), (1, 3)), ((0,), (1,), (3,)), ((0, 1), (1, 2), (1, 3)), ((0,), (2, 1), (1, 3)),
            ((0,), (1, 2), (3,)), ((0,), (1, 2), (1,)), ((0,), (1, 2), ()), ((), (1, 2), (1, 3)), ((1,), (2, 1), (3,)),
            ((0,), (1, 2), (1, 2)), ((0,), (1, 2, 1), (3,)), ((0,), (1, 2), (1, 3), ()), ((0,), (1, 2)),
        ):
            self.assertIs(shows_most(BACK, lot, None, paper), False, paper)

    def test_the_empty_way_and_the_empty_row(self):
        web = Web(2, [(0, 1), (1, 0)], 0, [0])
        self.assertIs(shows_most(web, Lot([1]), None, ((), (0, 1), ())), True)
        self.assertIs(shows_most(web, Lot([0]), None, ((), (0, 1), ())), True)
        self.assertIs(shows_most(web, Lot([1]), None, ((0,), (1, 0), ())), False)
        self.assertIs(shows_most(web, Lot([1]), None, ((0,), (1, 0), (1,))), True)
        self.assertIs(shows_most(web, Lot([1]), None, ((), (), ())), False)
        self.assertIsNone(self.check_most(web, Lot([1])))

    def test_what_is_no_paper(self):
        for paper in NO_PAPERS:
            for web, lot, number in (
                (BACK, Lot([1, 2]), 1), (BACK, Lot([2]), None), (POINT, Lot([0]), 1), (POINT, Lot([]), 0),
                (LOOP, Lot([]), None), (LOOP, Lot([0]), 1), (DIAMOND, Lot([1]), 1), (DIAMOND, Lot([]), None),
            ):
                with self.subTest(repr((number, paper))):
                    self.assertIs(shows_most(web, lot, number, paper), False)

    def test_truths_in_papers(self):
        lot = Lot([1, 2])
        self.assertIs(shows_most(BACK, lot, 1, ((0, 1, 3), (0, 1, 1, 1))), True)
        self.assertIs(shows_most(BACK, lot, 1, ((0, True, 3), (0, 1, 1, 1))), False)
        self.assertIs(shows_most(BACK, lot, 1, ((0, 1, 3), (0, 1, True, 1))), False)
        self.assertIs(shows_most(BACK, lot, 1, ((0, 1, 3), (False, 1, 1, 1))), False)
        self.assertIs(shows_most(BACK, Lot([2]), None, ((0,), (True, 2), (1, 3))), False)
        self.assertIs(shows_most(BACK, Lot([2]), None, ((False,), (1, 2), (1, 3))), False)
        self.assertIs(shows_most(BACK, Lot([2]), None, ((0,), (1, 2), (True, 3))), False)

    def test_what_is_no_number(self):
        for number in (True, "1", b"1", 1.0, [1], (1,), {}, {1}, Lot([1]), object(), ""):
            self.assertIs(shows_most(BACK, Lot([1, 2]), number, ((0, 1, 3), (0, 1, 1, 1))), False)
            self.assertIs(shows_most(BACK, Lot([2]), number, ((0,), (1, 2), (1, 3))), False)
        for number in (False, "", (), [], 0.0):
            self.assertIs(shows_most(POINT, Lot([]), number, ((), (0,))), False)
            self.assertIs(shows_most(BACK, Lot([2]), number, ((0,), (1, 2), (1, 3))), False)

    def test_numbers_out_of_range(self):
        for number in (-1, 2, 10 ** 30, -10 ** 30):
            self.assertIs(shows_most(BACK, Lot([1, 2]), number, ((0, 1, 3), (0, 1, 1, 1))), False)
        self.assertIs(shows_most(BACK, Lot([1, 2]), 1, ((0, 1, 3), (0, 1, 1, 10 ** 30))), False)
        self.assertIs(shows_most(BACK, Lot([1, 2]), 1, ((0, 1, 10 ** 30), (0, 1, 1, 1))), False)

    def test_heights_of_a_place_that_is_no_exit_have_no_bound_above_by_themselves(self):
        web = Web(3, [(0, 1), (0, 2), (2, 2)], 0, [1, 2])
        self.assertIs(shows_most(web, Lot([]), 0, ((0,), (0, 0, 0))), True)
        self.assertIs(shows_most(web, Lot([]), 0, ((0,), (0, 0, 1))), False)
        self.assertIs(shows_most(web, Lot([]), 0, ((0,), (0, 1, 0))), False)

    def test_papers_near_right_ones(self):
        rng = random.Random(33)
        found = []
        for _ in range(60):
            web = drawn_web(rng, rng.randint(1, 5), 9)
            lot = drawn_lot(rng, web)
            most = most_saves(web, lot)
            papers = near_papers(rng, most.paper)
            papers += [paper for near in papers if isinstance(near, tuple) for paper in near_papers(rng, near)]
            for inner in range(len(most.paper)):
                for near in near_papers(rng, most.paper[inner]):
                    papers.append(most.paper[:inner] + (near,) + most.paper[inner + 1:])
            for paper in papers:
                for number in (most.number, None, 0, 1):
                    found.append(shows(web, lot, number, paper))
                    self.assertIs(shows_most(web, lot, number, paper), found[-1], (number, paper))
        self.assertGreater(found.count(True), 100)

    def test_way_of_1000_edges(self):
        web = Web(2, [(0, 1), (1, 0)], 0, [0])
        paper = ((0, 1) * 500, (0, 1) * 500, (0, 1) * 500)
        self.assertIs(shows_most(web, Lot([1]), None, paper), True)
        self.assertIs(shows_most(LOOP, Lot([0]), 1, ((0,) * 1000, (1,))), True)

    def test_errors_ahead_of_the_paper(self):
        for number, paper in ((1, None), (None, 5), (0, ((), (0,))), ("x", "y")):
            self.raises(errors.BadPlace, 4, shows_most, DIAMOND, Lot([5, 4]), number, paper)


if __name__ == "__main__":
    unittest.main()
