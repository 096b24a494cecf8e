"""Points 4 to 7: webs."""

import copy
import itertools
import unittest

from savedseats import errors
from savedseats.webs import Web

DIAMOND = (4, [(0, 1), (1, 3), (0, 2), (2, 3)], 0, [3])
ALL_PAIRS = [(begin, end) for begin in range(9) for end in range(9)]


def chain(places):
    """A web whose places follow each other."""
    return Web(places, [(place, place + 1) for place in range(places - 1)], 0, [places - 1])


def idle_places(places, edges, entry, exits):
    """The places on no whole way, from a table of which place leads to which."""
    leads = [[begin == end or (begin, end) in edges for end in range(places)] for begin in range(places)]
    for mid, begin, end in itertools.product(range(places), repeat=3):
        leads[begin][end] = leads[begin][end] or (leads[begin][mid] and leads[mid][end])
    return [
        place for place in range(places)
        if not leads[entry][place] or not any(leads[place][out] for out in exits)
    ]


class WebCase(unittest.TestCase):
    def raises(self, error, value, *passed):
        """Check that Web raises this error with this value as its attribute."""
        with self.assertRaises(errors.SeatError) as caught:
            Web(*passed)
        self.assertEqual(caught.exception.__class__, error)
        self.assertIsInstance(caught.exception, ValueError)
        self.assertEqual(list(vars(caught.exception).values()), [] if value is None else [value])


class TestAttributes(WebCase):
    def test_attributes(self):
        web = Web(*DIAMOND)
        self.assertEqual(
            vars(web), {"places": 4, "edges": ((0, 1), (1, 3), (0, 2), (2, 3)), "entry": 0, "exits": (3,)}
        )

    def test_edges_are_a_tuple_of_tuples(self):
        for edges in ([[0, 1], [1, 0]], ((0, 1), (1, 0)), [(0, 1), [1, 0]]):
            web = Web(2, edges, 0, [0])
            self.assertEqual(web.edges, ((0, 1), (1, 0)))
            self.assertEqual([edge.__class__ for edge in web.edges], [tuple, tuple])

    def test_edges_keep_the_order_in_which_they_are_passed(self):
        self.assertEqual(Web(2, [(1, 0), (0, 1)], 0, [0]).edges, ((1, 0), (0, 1)))

    def test_exits_in_any_order_and_more_than_once(self):
        web = Web(3, [(0, 1), (1, 2)], 0, [2, 0, 2, 1, 0])
        self.assertEqual(web.exits, (0, 1, 2))
        self.assertEqual(web.gates, 6)
        self.assertEqual(Web(3, [(0, 1), (1, 2)], 0, (2, 1)).exits, (1, 2))

    def test_exits_with_greater_numbers_are_ascending(self):
        # Few members of a set of integers are not ascending by themselves.
        self.assertEqual(Web(9, chain(9).edges, 0, [1, 8]).exits, (1, 8))
        self.assertEqual(Web(17, chain(17).edges, 0, (8, 16, 8)).exits, (8, 16))

    def test_entry_that_is_not_the_first_place(self):
        self.assertEqual(Web(2, [(1, 0)], 1, [0]).entry, 1)

    def test_arguments_are_passed_by_name(self):
        web = Web(places=2, edges=[(0, 1)], entry=0, exits=[1])
        self.assertEqual(web, Web(2, [(0, 1)], 0, [1]))

    def test_arguments_are_not_changed(self):
        edges, exits = [[0, 1], (1, 2)], [2, 0, 2]
        kept = copy.deepcopy((edges, exits))
        Web(3, edges, 0, exits).ends(0)
        self.assertEqual((edges, exits), kept)

    def test_later_changes_have_no_effect(self):
        edges, exits = [[0, 1], [1, 2]], [2]
        web = Web(3, edges, 0, exits)
        edges[0][1] = 2
        edges.append([2, 0])
        exits.append(1)
        self.assertEqual(web, Web(3, [(0, 1), (1, 2)], 0, [2]))
        self.assertEqual(web.gates, 4)
        self.assertEqual(web.ends(0), (0, 1))


class TestGates(WebCase):
    def test_numbers_of_gates(self):
        web = Web(3, [(1, 0), (1, 2), (0, 2)], 1, [2, 0])
        self.assertEqual(web.gates, 6)
        self.assertEqual(
            [web.ends(gate) for gate in range(6)],
            [(1, 0), (1, 2), (0, 2), (-1, 1), (0, -1), (2, -1)],
        )
        self.assertEqual(web.gate_in(), 3)
        self.assertEqual(web.gate_out(0), 4)
        self.assertEqual(web.gate_out(2), 5)

    def test_web_without_edges(self):
        web = Web(1, [], 0, [0])
        self.assertEqual((web.gates, web.gate_in(), web.gate_out(0)), (2, 0, 1))
        self.assertEqual([web.ends(0), web.ends(1)], [(-1, 0), (0, -1)])

    def test_edge_from_a_place_to_itself(self):
        web = Web(2, [(0, 0), (0, 1), (1, 1)], 0, [1])
        self.assertEqual([web.ends(gate) for gate in range(3)], [(0, 0), (0, 1), (1, 1)])
        self.assertEqual(web.gates, 5)

    def test_ends_are_tuples(self):
        web = Web(2, [[0, 1]], 0, [1])
        self.assertEqual({web.ends(gate).__class__ for gate in range(web.gates)}, {tuple})

    def test_no_gate(self):
        web = Web(*DIAMOND)
        for number in (-1, -6, 6, 7, 10 ** 6):
            with self.subTest(number), self.assertRaises(errors.NoGate) as caught:
                web.ends(number)
            self.assertEqual(caught.exception.number, number)

    def test_no_gate_for_words_and_none(self):
        web = Web(*DIAMOND)
        for number in (None, "0", "save", (0,)):
            with self.subTest(number), self.assertRaises(errors.NoGate) as caught:
                web.ends(number)
            self.assertEqual(caught.exception.number, number)

    def test_gate_out_of_a_place_that_is_no_exit(self):
        web = Web(*DIAMOND)
        for place in (0, 2, 4, -1, 100, None):
            with self.subTest(place), self.assertRaises(errors.BadExit) as caught:
                web.gate_out(place)
            self.assertEqual(caught.exception.place, place)


class TestEquality(WebCase):
    def test_equal(self):
        self.assertTrue(Web(*DIAMOND) == Web(4, ([0, 1], (1, 3), (0, 2), (2, 3)), 0, (3, 3)))
        self.assertFalse(Web(*DIAMOND) != Web(*DIAMOND))

    def test_other_places(self):
        self.assertFalse(Web(1, [], 0, [0]) == Web(2, [(0, 1), (1, 0)], 0, [0]))

    def test_each_part_makes_a_difference(self):
        web = Web(2, [(0, 1), (1, 0)], 0, [1])
        self.assertTrue(web != Web(2, [(1, 0), (0, 1)], 0, [1]))
        self.assertTrue(web != Web(2, [(0, 1)], 0, [1]))
        self.assertTrue(web != Web(2, [(0, 1), (1, 0)], 1, [1]))
        self.assertTrue(web != Web(2, [(0, 1), (1, 0)], 0, [0]))
        self.assertTrue(web != Web(2, [(0, 1), (1, 0)], 0, [0, 1]))

    def test_number_of_places_makes_a_difference(self):
        # No constructor gives two webs that differ in their places alone.
        web, other = Web(2, [(0, 1)], 0, [1]), Web(2, [(0, 1)], 0, [1])
        other.places = 3
        self.assertFalse(web == other)

    def test_unlike_other_values(self):
        web = Web(1, [], 0, [0])
        for other in (None, 1, "web", (1, (), 0, (0,))):
            self.assertFalse(web == other)
            self.assertTrue(web != other)


class TestBadPlaces(WebCase):
    def test_least_and_most_places(self):
        self.assertEqual(Web(1, [], 0, [0]).places, 1)
        self.assertEqual(chain(24).places, 24)

    def test_bad_places(self):
        self.raises(errors.BadPlaces, 0, 0, [], 0, [0])
        self.raises(errors.BadPlaces, -1, -1, [], 0, [0])
        chain_of_25 = [(place, place + 1) for place in range(24)]
        self.raises(errors.BadPlaces, 25, 25, chain_of_25, 0, [24])
        self.raises(errors.BadPlaces, 1000, 1000, [], 0, [0])

    def test_places_that_are_no_number(self):
        for places in (None, "2", (2,)):
            with self.assertRaises(errors.BadPlaces) as caught:
                Web(places, [(0, 1)], 0, [1])
            self.assertEqual(caught.exception.count, places)


class TestBadEdges(WebCase):
    def test_80_edges(self):
        web = Web(9, ALL_PAIRS[:80], 0, [8])
        self.assertEqual(web.edges, tuple(ALL_PAIRS[:80]))
        self.assertEqual((web.gates, web.gate_out(8)), (82, 81))

    def test_81_edges(self):
        self.raises(errors.BadEdges, 81, 9, ALL_PAIRS, 0, [8])
        self.raises(errors.BadEdges, 162, 9, ALL_PAIRS + ALL_PAIRS, 0, [8])

    def test_edge_with_a_number_that_is_no_place(self):
        for edge in ((0, 2), (2, 0), (-1, 0), (0, -1), (1, 100), [0, 2]):
            with self.subTest(edge):
                self.raises(errors.BadEdge, 0, 2, [edge], 0, [1])
                self.raises(errors.BadEdge, 1, 2, [(0, 1), edge], 0, [1])

    def test_edge_that_is_no_pair(self):
        for edge in ((), (0,), (0, 1, 1), [0], [0, 1, 1], 1, None, "01", (None, 1), (0, "1"), ((0, 1), 1)):
            with self.subTest(edge):
                self.raises(errors.BadEdge, 1, 2, [(0, 1), edge], 0, [1])

    def test_truth_values_are_no_places(self):
        self.raises(errors.BadEdge, 0, 2, [(False, True)], 0, [1])

    def test_edge_equal_to_an_earlier_one(self):
        self.raises(errors.BadEdge, 2, 2, [(0, 1), (1, 0), (0, 1)], 0, [1])
        self.raises(errors.BadEdge, 1, 2, [(0, 1), [0, 1]], 0, [1])
        self.raises(errors.BadEdge, 1, 1, [(0, 0), (0, 0)], 0, [0])

    def test_edge_and_its_reverse_are_unlike(self):
        self.assertEqual(len(Web(2, [(0, 1), (1, 0)], 0, [1]).edges), 2)

    def test_first_bad_edge(self):
        self.raises(errors.BadEdge, 1, 2, [(0, 1), (0, 1), (0, 9), (5,)], 0, [1])
        self.raises(errors.BadEdge, 1, 2, [(0, 1), (0, 9), (0, 1)], 0, [1])


class TestBadEntryAndExits(WebCase):
    def test_bad_entry(self):
        for entry in (-1, 2, 24, None, "0", (0,)):
            with self.subTest(entry):
                self.raises_entry(entry)

    def raises_entry(self, entry):
        with self.assertRaises(errors.BadEntry) as caught:
            Web(2, [(0, 1)], entry, [1])
        self.assertEqual(caught.exception.place, entry)

    def test_no_exits(self):
        self.raises(errors.NoExits, None, 2, [(0, 1)], 0, [])
        self.raises(errors.NoExits, None, 2, [(0, 1)], 0, ())

    def test_bad_exit(self):
        for place in (-1, 2, 24, "1", (1,)):
            with self.subTest(place):
                self.raises(errors.BadExit, place, 2, [(0, 1)], 0, [1, place])

    def test_exit_none(self):
        with self.assertRaises(errors.BadExit) as caught:
            Web(2, [(0, 1)], 0, [1, None])
        self.assertIsNone(caught.exception.place)

    def test_first_bad_exit_in_the_order_in_which_they_are_passed(self):
        self.raises(errors.BadExit, 9, 2, [(0, 1)], 0, [1, 9, -1, 5])


class TestIdle(WebCase):
    def test_place_that_the_entry_does_not_lead_to(self):
        self.raises(errors.Idle, 1, 3, [(0, 2), (1, 2)], 0, [2])

    def test_place_that_leads_to_no_exit(self):
        self.raises(errors.Idle, 1, 3, [(0, 2), (0, 1)], 0, [2])

    def test_place_with_an_edge_to_itself_alone(self):
        self.raises(errors.Idle, 1, 3, [(0, 2), (1, 1)], 0, [2])

    def test_entry_that_leads_to_no_exit(self):
        self.raises(errors.Idle, 0, 2, [], 0, [1])
        self.raises(errors.Idle, 0, 2, [(1, 0)], 0, [1])
        self.raises(errors.Idle, 0, 2, [], 1, [0])

    def test_exit_that_the_entry_does_not_lead_to(self):
        self.raises(errors.Idle, 2, 3, [(0, 1)], 0, [1, 2])

    def test_least_idle_place(self):
        self.raises(errors.Idle, 1, 4, [(0, 2), (2, 1), (3, 2)], 0, [2])
        self.raises(errors.Idle, 1, 4, [(0, 2), (1, 2), (2, 3)], 0, [2])

    def test_place_behind_an_exit_that_leads_back(self):
        self.assertEqual(Web(3, [(0, 1), (1, 2), (2, 1)], 0, [1]).places, 3)

    def test_all_webs_of_up_to_three_places(self):
        for places in (1, 2, 3):
            pairs = [(begin, end) for begin in range(places) for end in range(places)]
            for chosen in itertools.product((False, True), repeat=len(pairs)):
                edges = [pair for pair, there in zip(pairs, chosen) if there]
                for entry, number in itertools.product(range(places), range(1, 2 ** places)):
                    exits = [place for place in range(places) if number >> place & 1]
                    self.check_idle(places, edges, entry, exits)

    def check_idle(self, places, edges, entry, exits):
        idle = idle_places(places, edges, entry, exits)
        if idle:
            self.raises(errors.Idle, idle[0], places, edges, entry, exits)
        else:
            self.assertEqual(Web(places, edges, entry, exits).exits, tuple(exits))


class TestOrderOfErrors(WebCase):
    def test_places_ahead_of_edges(self):
        self.raises(errors.BadPlaces, 25, 25, ALL_PAIRS, 99, [])
        self.raises(errors.BadPlaces, 0, 0, [(0, 1)], 0, [])

    def test_number_of_edges_ahead_of_each_edge(self):
        self.raises(errors.BadEdges, 81, 2, ALL_PAIRS, 99, [])
        self.raises(errors.BadEdges, 81, 2, [(0, 1)] * 81, 0, [1])

    def test_edge_ahead_of_entry(self):
        self.raises(errors.BadEdge, 0, 2, [(0, 2)], 2, [])

    def test_entry_ahead_of_exits(self):
        self.raises(errors.BadEntry, 2, 2, [(0, 1)], 2, [])
        self.raises(errors.BadEntry, 2, 2, [(0, 1)], 2, [3])

    def test_no_exits_ahead_of_idle(self):
        self.raises(errors.NoExits, None, 3, [(0, 1)], 0, [])

    def test_exit_ahead_of_idle(self):
        self.raises(errors.BadExit, 3, 3, [(0, 1)], 0, [1, 3])


if __name__ == "__main__":
    unittest.main()
