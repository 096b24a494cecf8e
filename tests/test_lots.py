"""Points 11 to 15: lots, placings, and what is played along a way."""

import copy
import itertools
import random
import unittest

from savedseats import errors
from savedseats.lots import Lot, Placing, placing_of, played
from savedseats.webs import Web
from support import (
    DIAMOND, LOOP, POINT, ROUNDS, SeatCase, all_lots, chain, drawn_lot, drawn_web, fault_of, marked, marks_of,
    whole_ways,
)


class TestLot(SeatCase):
    def test_places_are_an_ascending_tuple_without_duplicates(self):
        for passed in ([3, 1, 3, 0], (1, 0, 3), [0, 1, 3]):
            lot = Lot(passed)
            self.assertEqual(vars(lot), {"places": (0, 1, 3)})
            self.assertIs(lot.places.__class__, tuple)
        # Few members of a set of integers are not ascending by themselves.
        self.assertEqual(Lot([16, 8, 1, 999999]).places, (1, 8, 16, 999999))
        self.assertEqual(Lot(places=[2]).places, (2,))

    def test_a_lot_without_places(self):
        for lot in (Lot([]), Lot(()), Lot([1]) - Lot([1]), Lot([1]) & Lot([2])):
            self.assertEqual((lot.places, len(lot), list(lot)), ((), 0, []))
            self.assertEqual(lot, Lot([]))
            self.assertTrue(lot <= Lot([]))
            self.assertFalse(0 in lot)
            self.assertEqual(lot | Lot([2]), Lot([2]))

    def test_no_number_below_0(self):
        self.raises(errors.BadPlace, -1, Lot, [-1])
        self.raises(errors.BadPlace, -1, Lot, (4, -1, -7))
        self.raises(errors.BadPlace, -7, Lot, [4, -7, -1])
        self.raises(errors.BadPlace, -2, Lot, [0, 1, 2, 3, -2])

    def test_what_is_no_number(self):
        for value in (None, "1", (1,), True):
            self.raises(errors.BadPlace, value, Lot, [0, value])

    def test_part(self):
        self.assertTrue(Lot([1]) <= Lot([0, 1]))
        self.assertTrue(Lot([0, 1]) <= Lot([1, 0]))
        self.assertFalse(Lot([0, 1]) <= Lot([1]))
        self.assertFalse(Lot([0]) <= Lot([1]))
        self.assertIs(Lot([]) <= Lot([5]), True)
        self.assertIs(Lot([5]) <= Lot([]), False)

    def test_all_pairs_of_lots_as_sets(self):
        lots = all_lots(chain(4), Lot([]))
        for first, second in itertools.product(lots, repeat=2):
            one, two = set(first.places), set(second.places)
            self.assertIs(first <= second, one <= two)
            self.assertIs(first == second, one == two)
            for made, told in ((first | second, one | two), (first & second, one & two), (first - second, one - two)):
                self.assertIs(made.__class__, Lot)
                self.assertEqual(made.places, tuple(sorted(told)))

    def test_operators_change_nothing(self):
        first, second = Lot([0, 1]), Lot([1, 2])
        self.assertEqual((first | second, first & second, first - second), (Lot([0, 1, 2]), Lot([1]), Lot([0])))
        self.assertEqual((first.places, second.places), ((0, 1), (1, 2)))

    def test_operators_take_lots_only(self):
        for told in (
            lambda: Lot([0]) <= (0, 1), lambda: Lot([0]) | [1], lambda: Lot([0]) & {0}, lambda: Lot([0]) - (0,),
        ):
            self.assertRaises(TypeError, told)

    def test_in(self):
        lot = Lot([0, 3, 999999])
        for place in (0, 3, 999999):
            self.assertIs(place in lot, True)
        for place in (-1, 1, 2, 4, 24, 10 ** 6, -(10 ** 30), 10 ** 30):
            self.assertIs(place in lot, False)

    def test_len_and_iteration(self):
        lot = Lot((9, 2, 9, 4))
        self.assertEqual(len(lot), 3)
        self.assertEqual([list(lot), list(lot), tuple(lot)], [[2, 4, 9], [2, 4, 9], (2, 4, 9)])
        # Two iterations at once do not disturb each other.
        self.assertEqual([(a, b) for a in lot for b in lot], list(itertools.product((2, 4, 9), repeat=2)))

    def test_lot_of_a_lot(self):
        self.assertEqual(Lot(Lot([2, 1])), Lot([1, 2]))

    def test_equality(self):
        self.assertTrue(Lot([1, 0, 1]) == Lot((0, 1)))
        self.assertFalse(Lot([1, 0]) != Lot((0, 1)))
        self.assertTrue(Lot([0]) != Lot([0, 1]))
        for other in ((0,), [0], {0}, None, 0, Placing([0], [])):
            self.assertFalse(Lot([0]) == other)

    def test_passed_lists(self):
        passed = [2, 0, 2]
        lot = Lot(passed)
        self.assertEqual(passed, [2, 0, 2])
        passed.append(1)
        self.assertEqual(lot, Lot([0, 2]))


class TestPlacing(SeatCase):
    def test_saves_and_backs_are_ascending_tuples_without_duplicates(self):
        placing = Placing([16, 8, 1, 8], (7, 3, 7))
        self.assertEqual(vars(placing), {"saves": (1, 8, 16), "backs": (3, 7)})
        self.assertEqual({placing.saves.__class__, placing.backs.__class__}, {tuple})
        self.assertEqual(Placing(saves=[1], backs=[]), Placing((1,), ()))

    def test_len_is_the_number_of_marks(self):
        self.assertEqual(len(Placing([], [])), 0)
        self.assertEqual(len(Placing([4, 4], [])), 1)
        self.assertEqual(len(Placing([1, 8, 1], [3, 7, 9, 9])), 5)

    def test_equality(self):
        self.assertTrue(Placing([2, 1], [3]) == Placing((1, 2, 1), (3, 3)))
        self.assertTrue(Placing([1], [2]) != Placing([2], [1]))
        self.assertTrue(Placing([1], []) != Placing([1], [2]))
        self.assertTrue(Placing([1], [2]) != Placing([3], [2]))
        self.assertTrue(Placing([1], []) != Placing([], [1]))
        for other in (((1,), ()), None, Lot([1])):
            self.assertFalse(Placing([1], []) == other)

    def test_bad_mark(self):
        self.raises(errors.BadMark, -1, Placing, [-1], [])
        self.raises(errors.BadMark, -1, Placing, [], [0, -1])
        self.raises(errors.BadMark, -2, Placing, [5, -2, -3], [-1])
        self.raises(errors.BadMark, -3, Placing, (5, -3, -2), (-1,))
        for value in (None, "1", (1,), True):
            self.raises(errors.BadMark, value, Placing, [0, value], [])
            self.raises(errors.BadMark, value, Placing, [0], [value])

    def test_two_marks(self):
        self.raises(errors.TwoMarks, 0, Placing, [0], [0])
        self.raises(errors.TwoMarks, 3, Placing, [9, 16, 3], [16, 3, 9])
        self.raises(errors.TwoMarks, 8, Placing, [1, 16, 8], [16, 2, 8])
        self.raises(errors.TwoMarks, 4, Placing, [1, 4], [4, 4])

    def test_bad_mark_ahead_of_two_marks(self):
        self.raises(errors.BadMark, -1, Placing, [0], [0, -1])
        self.raises(errors.BadMark, -1, Placing, [0, -1], [0])
        self.raises(errors.BadMark, -1, Placing, [-1], [-1])

    def test_passed_lists(self):
        saves, backs = [2, 0, 2], [3, 1]
        placing = Placing(saves, backs)
        self.assertEqual((saves, backs), ([2, 0, 2], [3, 1]))
        saves.append(5)
        backs.clear()
        self.assertEqual(placing, Placing([0, 2], [1, 3]))


class TestPlacingOf(SeatCase):
    def test_diamond(self):
        self.assertEqual(placing_of(DIAMOND, Lot([1])), Placing([0], [1]))
        self.assertEqual(placing_of(DIAMOND, Lot([0, 1, 2, 3])), Placing([4], [5]))
        self.assertEqual(placing_of(DIAMOND, Lot([0])), Placing([4], [0, 2]))
        self.assertEqual(placing_of(DIAMOND, Lot([3])), Placing([1, 3], [5]))
        self.assertEqual(placing_of(DIAMOND, Lot([1, 2])), Placing([0, 2], [1, 3]))

    def test_a_lot_without_places(self):
        for web in (DIAMOND, ROUNDS, POINT, LOOP):
            self.assertEqual(placing_of(web, Lot([])), Placing([], []))

    def test_edges_from_a_place_to_itself_have_no_marks(self):
        self.assertEqual(placing_of(LOOP, Lot([0])), Placing([1], [2]))
        self.assertEqual(placing_of(ROUNDS, Lot([1])), Placing([4], [1, 5]))

    def test_web_without_edges(self):
        self.assertEqual(placing_of(POINT, Lot([0])), Placing([0], [1]))

    def test_all_lots_of_drawn_webs(self):
        rng = random.Random(11)
        for _ in range(60):
            web = drawn_web(rng, rng.randint(1, 5), 9)
            for lot in all_lots(web, Lot([])):
                self.assertEqual(placing_of(web, lot), marked(marks_of(web, lot)))

    def test_places_that_the_web_does_not_have(self):
        self.raises(errors.BadPlace, 4, placing_of, DIAMOND, Lot([4]))
        self.raises(errors.BadPlace, 7, placing_of, DIAMOND, Lot([999999, 7, 0]))
        self.raises(errors.BadPlace, 1, placing_of, POINT, Lot([1]))


class TestPlayed(SeatCase):
    def test_example(self):
        self.assertEqual(played(DIAMOND, Lot([1]), Placing([0], []), (0, 1)), (7, "left"))

    def test_no_fault(self):
        self.assertIsNone(played(DIAMOND, Lot([1]), Placing([0], [1]), (0, 1)))
        self.assertIsNone(played(DIAMOND, Lot([1]), Placing([4], [5]), (0, 1)))
        self.assertIsNone(played(DIAMOND, Lot([1]), Placing([], []), (2, 3)))
        self.assertIsNone(played(DIAMOND, Lot([]), Placing([], []), (0, 1)))

    def test_saved_twice(self):
        self.assertEqual(played(DIAMOND, Lot([]), Placing([4, 0], [5]), (0, 1)), (2, "saved twice"))
        self.assertEqual(played(DIAMOND, Lot([]), Placing([4, 5], []), (0, 1)), (6, "saved twice"))
        self.assertEqual(played(ROUNDS, Lot([]), Placing([0], [5]), (0, 0)), (4, "saved twice"))

    def test_not_saved(self):
        self.assertEqual(played(DIAMOND, Lot([]), Placing([], [4]), (0, 1)), (0, "not saved"))
        self.assertEqual(played(DIAMOND, Lot([]), Placing([], [0]), (0, 1)), (2, "not saved"))
        self.assertEqual(played(DIAMOND, Lot([]), Placing([4], [0, 5]), (0, 1)), (6, "not saved"))

    def test_used(self):
        self.assertEqual(played(DIAMOND, Lot([0]), Placing([], []), (0, 1)), (1, "used"))
        self.assertEqual(played(DIAMOND, Lot([1]), Placing([1], [5]), (0, 1)), (3, "used"))
        self.assertEqual(played(DIAMOND, Lot([3]), Placing([4], [1]), (0, 1)), (5, "used"))

    def test_left(self):
        self.assertEqual(played(DIAMOND, Lot([]), Placing([5], []), (0, 1)), (7, "left"))
        self.assertEqual(played(DIAMOND, Lot([]), Placing([4], []), (2, 3)), (7, "left"))

    def test_the_empty_way(self):
        self.assertIsNone(played(POINT, Lot([0]), Placing([0], [1]), ()))
        self.assertIsNone(played(POINT, Lot([]), Placing([], []), ()))
        self.assertEqual(played(POINT, Lot([]), Placing([], [0]), ()), (0, "not saved"))
        self.assertEqual(played(POINT, Lot([0]), Placing([], []), ()), (1, "used"))
        self.assertEqual(played(POINT, Lot([]), Placing([], [1]), ()), (2, "not saved"))
        self.assertEqual(played(POINT, Lot([]), Placing([0, 1], []), ()), (2, "saved twice"))
        self.assertEqual(played(POINT, Lot([0]), Placing([0], []), ()), (3, "left"))

    def test_only_the_first_fault_counts(self):
        self.assertEqual(played(DIAMOND, Lot([0, 1]), Placing([5], [4]), (0, 1)), (0, "not saved"))
        self.assertEqual(played(DIAMOND, Lot([0, 1]), Placing([5], [0]), (0, 1)), (1, "used"))
        self.assertEqual(played(DIAMOND, Lot([1]), Placing([4, 0], []), (0, 1)), (2, "saved twice"))

    def test_marks_count_as_often_as_the_way_goes_through_the_gate(self):
        # The round from 1 to 0, 2 and 0 again: saved on the way to 2, given back on the way to 0.
        placing = Placing([2], [3, 6])
        self.assertIsNone(played(ROUNDS, Lot([2]), placing, (1, 2, 3, 2, 3, 2)))
        self.assertEqual(played(ROUNDS, Lot([2]), Placing([2], [6]), (1, 2, 3, 2)), (8, "saved twice"))

    def test_answer_is_a_tuple_and_ways_may_be_lists(self):
        way = [0, 1]
        found = played(DIAMOND, Lot([1]), Placing([0], []), way)
        self.assertEqual((found, found.__class__, way), ((7, "left"), tuple, [0, 1]))

    def test_way_of_1000_edges(self):
        self.assertIsNone(played(LOOP, Lot([0]), Placing([1], [2]), (0,) * 1000))
        self.assertEqual(played(LOOP, Lot([0]), Placing([1], []), (0,) * 1000), (2003, "left"))

    def test_drawn_placings_along_all_short_ways(self):
        rng = random.Random(13)
        words = set()
        for _ in range(150):
            web = drawn_web(rng, rng.randint(1, 4), 6)
            uses = drawn_lot(rng, web)
            marks = [rng.choice((None, None, "save", "back")) for _ in range(web.gates)]
            placing = marked([(gate, word) for gate, word in enumerate(marks) if word])
            for way in whole_ways(web, 4):
                found = played(web, uses, placing, way)
                self.assertEqual(found, fault_of(web, uses, placing, way))
                words.add(found and found[1])
        self.assertEqual(words, {None, "saved twice", "not saved", "used", "left"})

    def test_bad_uses(self):
        self.raises(errors.BadPlace, 4, played, DIAMOND, Lot([9, 4, 0]), Placing([0], []), (0, 1))

    def test_bad_placing(self):
        self.raises(errors.NoGate, 6, played, DIAMOND, Lot([]), Placing([6], [7]), (0, 1))
        self.raises(errors.NoGate, 6, played, DIAMOND, Lot([]), Placing([0, 7], [6, 1]), (0, 1))
        self.raises(errors.NoGate, 8, played, DIAMOND, Lot([]), Placing([16, 8], [999999]), (0, 1))

    def test_bad_ways(self):
        for way, error, value in (
            ((1,), errors.BadWay, 0), ((0, 3), errors.BadWay, 1), ((0, -1), errors.BadWay, 1),
            ((0, 99), errors.BadWay, 1), ((0,), errors.NotWhole, 1), ((), errors.NotWhole, 0),
        ):
            # The errors of a way are due even if a fault comes first.
            for placing in (Placing([], []), Placing([], [4])):
                self.raises(error, value, played, DIAMOND, Lot([0]), placing, way)

    def test_errors_in_the_order_of_the_arguments(self):
        self.raises(errors.BadPlace, 4, played, DIAMOND, Lot([4]), Placing([6], []), (1,))
        self.raises(errors.NoGate, 6, played, DIAMOND, Lot([3]), Placing([6], []), (1,))
        self.raises(errors.BadWay, 0, played, DIAMOND, Lot([3]), Placing([5], []), (1,))

    def test_arguments_are_not_changed(self):
        web, uses, placing, way = copy.deepcopy((DIAMOND, Lot([1]), Placing([0], [1]), [0, 1]))
        played(web, uses, placing, way)
        placing_of(web, uses)
        self.assertEqual((web, uses, placing, way), (DIAMOND, Lot([1]), Placing([0], [1]), [0, 1]))


class TestBuiltAgain(unittest.TestCase):
    def test_an_equal_web_gives_the_same(self):
        again = Web(4, [[0, 1], [1, 3], [0, 2], [2, 3]], 0, (3, 3))
        self.assertEqual(placing_of(again, Lot([1])), placing_of(DIAMOND, Lot([1])))


if __name__ == "__main__":
    unittest.main()
