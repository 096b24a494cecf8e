"""Points 16 to 18: verdicts on placings."""

import copy
import itertools
import random
import unittest

from savedseats import errors
from savedseats.lots import Lot, Placing, placing_of
from savedseats.verdicts import Verdict, judge, shows_right, shows_wrong
from savedseats.webs import Web
from support import (
    DIAMOND, LOOP, NO_WAYS, POINT, ROUNDS, SeatCase, all_lots, drawn_lot, drawn_web, fault_of, large_web, marked,
    marks_of, whole_ways,
)


def all_placings(web):
    """All placings of a web."""
    for row in itertools.product((None, "save", "back"), repeat=web.gates):
        yield marked([(gate, word) for gate, word in enumerate(row) if word])


def drawn_near(rng, web, placing):
    """The placing with one mark drawn anew."""
    marks = {(gate, "save") for gate in placing.saves} | {(gate, "back") for gate in placing.backs}
    gate = rng.randrange(web.gates)
    marks = {mark for mark in marks if mark[0] != gate}
    return marked(marks | {(gate, word) for word in [rng.choice((None, "save", "back"))] if word})


class VerdictCase(SeatCase):
    def check_verdict(self, web, uses, placing):
        """Check the verdict on a placing against all lots, and return whether it is right."""
        lots = [lot for lot in all_lots(web, uses) if marked(marks_of(web, lot)) == placing]
        verdict = judge(web, uses, placing)
        self.assertIs(verdict.__class__, Verdict)
        self.assertIs(verdict.right, len(lots) == 1)
        self.check_paper(web, uses, placing, verdict)
        if verdict.right:
            self.assertEqual([verdict.paper], lots)
        return verdict.right

    def check_paper(self, web, uses, placing, verdict):
        """Check that the paper of a verdict is as point 17 says and shows it."""
        self.assertIs(bool(verdict), verdict.right)
        if verdict.right:
            self.assertIs(verdict.paper.__class__, Lot)
            self.assertTrue(set(uses.places) <= set(verdict.paper.places))
            self.assertEqual(marked(marks_of(web, verdict.paper)), placing)
            self.assertIs(shows_right(web, uses, placing, verdict.paper), True)
        else:
            self.assertIs(verdict.paper.__class__, tuple)
            self.assertIsNotNone(fault_of(web, uses, placing, verdict.paper))
            self.assertIs(shows_wrong(web, uses, placing, verdict.paper), True)


class TestVerdict(unittest.TestCase):
    def test_it_holds_the_very_objects(self):
        paper = [Lot([1])]
        verdict = Verdict(True, paper)
        self.assertEqual(list(vars(verdict)), ["right", "paper"])
        self.assertIs(verdict.right, True)
        self.assertIs(verdict.paper, paper)
        way = (0, 1)
        self.assertIs(Verdict(right=False, paper=way).paper, way)

    def test_truth(self):
        self.assertIs(bool(Verdict(True, Lot([]))), True)
        self.assertIs(bool(Verdict(True, None)), True)
        self.assertIs(bool(Verdict(False, (0, 1))), False)


class TestJudge(VerdictCase):
    def test_right(self):
        for placing, lot in (
            (Placing([0], [1]), Lot([1])), (Placing([4], [5]), Lot([0, 1, 2, 3])), (Placing([4], [1, 2]), Lot([0, 1])),
        ):
            verdict = judge(DIAMOND, Lot([1]), placing)
            self.assertEqual((verdict.right, verdict.paper), (True, lot))

    def test_wrong(self):
        for placing in (
            Placing([], []), Placing([0], []), Placing([], [1]), Placing([2], [3]), Placing([4], []), Placing([], [4]),
            Placing([4, 0], [1, 5]), Placing([5], [4]), Placing([0], [1, 3]), Placing([0, 5], [1]),
        ):
            verdict = judge(DIAMOND, Lot([1]), placing)
            self.assertIs(verdict.right, False)
            self.assertIn(verdict.paper, [(0, 1), (2, 3)])
            self.check_paper(DIAMOND, Lot([1]), placing, verdict)

    def test_uses_with_no_places(self):
        self.assertEqual(judge(DIAMOND, Lot([]), Placing([], [])).paper, Lot([]))
        self.assertEqual(judge(DIAMOND, Lot([]), Placing([2], [3])).paper, Lot([2]))
        self.assertIs(judge(DIAMOND, Lot([]), Placing([2], [1])).right, False)

    def test_all_placings_of_small_webs(self):
        rng = random.Random(16)
        drawn = [drawn_web(rng, rng.randint(1, 3), 4) for _ in range(12)]
        edge = Web(2, [(0, 1), (1, 0), (0, 0)], 0, [1])
        for web in (POINT, LOOP, edge, *[web for web in drawn if web.gates <= 6]):
            for uses in all_lots(web, Lot([])):
                right = [self.check_verdict(web, uses, placing) for placing in all_placings(web)]
                # Each lot with all the uses has a placing of its own.
                self.assertEqual(sum(right), len(all_lots(web, uses)))

    def test_right_is_without_a_fault_on_each_way(self):
        for web in (POINT, LOOP, ROUNDS, Web(2, [(0, 1), (1, 0), (0, 0)], 0, [1])):
            ways = whole_ways(web, 7)
            rng = random.Random(14)
            for _ in range(300):
                uses = drawn_lot(rng, web)
                placing = placing_of(web, drawn_lot(rng, web))
                for _ in range(rng.randint(0, 2)):
                    placing = drawn_near(rng, web, placing)
                faults = [fault_of(web, uses, placing, way) for way in ways]
                self.assertIs(judge(web, uses, placing).right, not any(faults))

    def test_many_placings_of_drawn_webs(self):
        rng = random.Random(17)
        found = []
        for _ in range(120):
            web = drawn_web(rng, rng.randint(1, 5), 10)
            uses = drawn_lot(rng, web, 2 if web.places > 1 else 1)
            for lot in all_lots(web, Lot([])):
                placing = placing_of(web, lot)
                found.append(self.check_verdict(web, uses, placing))
                found.append(self.check_verdict(web, uses, drawn_near(rng, web, placing)))
        self.assertTrue(all(found.count(right) > 300 for right in (True, False)))

    def test_webs_of_24_places(self):
        rng = random.Random(24)
        found = []
        for _ in range(60):
            web = large_web(rng)
            uses = drawn_lot(rng, web, 3)
            lot = drawn_lot(rng, web) | uses
            placing = placing_of(web, lot)
            verdict = judge(web, uses, placing)
            self.assertEqual((verdict.right, verdict.paper), (True, lot))
            self.check_paper(web, uses, placing, verdict)
            for _ in range(5):
                near = drawn_near(rng, web, placing)
                verdict = judge(web, uses, near)
                # Each place of such a web is on a whole way, so one other mark is one too many or too few.
                self.assertIs(verdict.right, near == placing)
                self.check_paper(web, uses, near, verdict)
                found.append(verdict.right)
            other = judge(web, Lot(range(24)), placing)
            self.assertIs(other.right, len(lot) == 24)
            self.check_paper(web, Lot(range(24)), placing, other)
        self.assertIn(False, found)

    def test_errors(self):
        self.raises(errors.BadPlace, 4, judge, DIAMOND, Lot([5, 4]), Placing([0], [1]))
        self.raises(errors.NoGate, 6, judge, DIAMOND, Lot([1]), Placing([7], [6, 1]))
        self.raises(errors.BadPlace, 4, judge, DIAMOND, Lot([4]), Placing([6], []))

    def test_arguments_are_not_changed(self):
        passed = (DIAMOND, Lot([1]), Placing([0], [1]))
        kept = copy.deepcopy(passed)
        judge(*passed)
        judge(DIAMOND, Lot([1]), Placing([0], []))
        self.assertEqual(passed, kept)


class TestShowsRight(VerdictCase):
    def test_lots(self):
        self.assertIs(shows_right(DIAMOND, Lot([1]), Placing([0], [1]), Lot([1])), True)
        self.assertIs(shows_right(DIAMOND, Lot([]), Placing([0], [1]), Lot([1])), True)
        self.assertIs(shows_right(DIAMOND, Lot([1]), Placing([0], [1]), Lot([1, 2])), False)
        self.assertIs(shows_right(DIAMOND, Lot([2]), Placing([0], [1]), Lot([1])), False)
        self.assertIs(shows_right(DIAMOND, Lot([]), Placing([0], []), Lot([1])), False)
        self.assertIs(shows_right(POINT, Lot([]), Placing([], []), Lot([])), True)

    def test_all_lots(self):
        for web in (DIAMOND, ROUNDS):
            lots = all_lots(web, Lot([]))
            for uses, lot, other in itertools.product(lots, repeat=3):
                told = shows_right(web, uses, placing_of(web, other), lot)
                self.assertIs(told, lot == other and set(uses.places) <= set(lot.places))

    def test_errors(self):
        right = (DIAMOND, Lot([1]), Placing([0], [1]), Lot([1]))
        self.raises(errors.BadPlace, 4, shows_right, DIAMOND, Lot([5, 4]), *right[2:])
        self.raises(errors.NoGate, 6, shows_right, *right[:2], Placing([7, 6], [1]), right[3])
        self.raises(errors.BadPlace, 8, shows_right, *right[:3], Lot([16, 8, 1]))
        self.raises(errors.BadPlace, 5, shows_right, DIAMOND, Lot([5]), Placing([6], []), Lot([4]))
        self.raises(errors.NoGate, 6, shows_right, DIAMOND, Lot([1]), Placing([6], []), Lot([4]))

    def test_bad_lot_is_an_error_where_the_uses_are_not_in_it(self):
        self.raises(errors.BadPlace, 4, shows_right, DIAMOND, Lot([1]), Placing([0], [1]), Lot([4]))


class TestShowsWrong(VerdictCase):
    def test_ways(self):
        self.assertIs(shows_wrong(DIAMOND, Lot([1]), Placing([0], []), (0, 1)), True)
        self.assertIs(shows_wrong(DIAMOND, Lot([1]), Placing([0], []), (2, 3)), False)
        self.assertIs(shows_wrong(DIAMOND, Lot([1]), Placing([0], [1]), (0, 1)), False)

    def test_the_empty_way(self):
        self.assertIs(shows_wrong(POINT, Lot([0]), Placing([], []), ()), True)
        self.assertIs(shows_wrong(POINT, Lot([]), Placing([], []), ()), False)
        self.assertIs(shows_wrong(DIAMOND, Lot([0]), Placing([], []), ()), False)

    def test_ways_that_are_not_whole(self):
        for way in ((0,), (1,), (0, 3), (0, 0), (0, 1, 0), (0, 1, 1)):
            self.assertIs(shows_wrong(DIAMOND, Lot([0]), Placing([], []), way), False)

    def test_what_is_no_way(self):
        # Here each whole way of the web has a fault.
        for way in NO_WAYS:
            with self.subTest(repr(way)):
                self.assertIs(shows_wrong(DIAMOND, Lot([0]), Placing([], []), way), False)
                self.assertIs(shows_wrong(LOOP, Lot([0]), Placing([], []), way), False)

    def test_way_of_1000_edges(self):
        self.assertIs(shows_wrong(LOOP, Lot([0]), Placing([1], []), (0,) * 1000), True)

    def test_all_short_rows(self):
        rng = random.Random(18)
        ways = set(whole_ways(ROUNDS, 4))
        for _ in range(40):
            uses = drawn_lot(rng, ROUNDS)
            placing = drawn_near(rng, ROUNDS, placing_of(ROUNDS, drawn_lot(rng, ROUNDS)))
            for length in range(5):
                for row in itertools.product(range(4), repeat=length):
                    wrong = row in ways and fault_of(ROUNDS, uses, placing, row) is not None
                    self.assertIs(shows_wrong(ROUNDS, uses, placing, row), wrong)
                    self.assertIs(shows_wrong(ROUNDS, uses, placing, list(row)), False)

    def test_errors_ahead_of_the_paper(self):
        for way in ((0, 1), (1,), None, "way", [0, 1]):
            self.raises(errors.BadPlace, 4, shows_wrong, DIAMOND, Lot([4]), Placing([6], []), way)
            self.raises(errors.NoGate, 6, shows_wrong, DIAMOND, Lot([3]), Placing([0], [7, 6]), way)


if __name__ == "__main__":
    unittest.main()
