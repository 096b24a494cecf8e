"""Points 8 to 10: ways."""

import inspect
import itertools
import unittest

from savedseats import errors
from savedseats.ways import places_of, steps_of
from savedseats.webs import Web

DIAMOND = Web(4, [(0, 1), (1, 3), (0, 2), (2, 3)], 0, [3])
# The entry is an exit, edge 0 is a round, and edges 2 and 3 are another one.
ROUNDS = Web(3, [(1, 1), (1, 0), (0, 2), (2, 0)], 1, [2, 1])


class WayCase(unittest.TestCase):
    def raises(self, error, value, told, web, way):
        """Check that the call raises this error with this value as its attribute."""
        with self.assertRaises(errors.SeatError) as caught:
            list(told(web, way))
        self.assertEqual(caught.exception.__class__, error)
        self.assertIsInstance(caught.exception, ValueError)
        self.assertEqual(list(vars(caught.exception).values()), [value])


class TestPlacesOf(WayCase):
    def test_whole_ways(self):
        self.assertEqual(places_of(DIAMOND, (0, 1)), (0, 1, 3))
        self.assertEqual(places_of(DIAMOND, (2, 3)), (0, 2, 3))

    def test_ways_that_are_not_whole(self):
        self.assertEqual(places_of(DIAMOND, (0,)), (0, 1))
        self.assertEqual(places_of(ROUNDS, (1,)), (1, 0))

    def test_empty_way(self):
        self.assertEqual(places_of(DIAMOND, ()), (0,))
        self.assertEqual(places_of(ROUNDS, ()), (1,))
        self.assertEqual(places_of(Web(1, [], 0, [0]), ()), (0,))

    def test_places_that_are_visited_more_than_once(self):
        self.assertEqual(places_of(ROUNDS, (0, 0, 1, 2, 3, 2)), (1, 1, 1, 0, 2, 0, 2))

    def test_list_gives_a_tuple_and_is_not_changed(self):
        way = [0, 1]
        found = places_of(DIAMOND, way)
        self.assertEqual((found, found.__class__, way), ((0, 1, 3), tuple, [0, 1]))

    def test_way_of_1000_edges(self):
        self.assertEqual(places_of(ROUNDS, (0,) * 1000), (1,) * 1001)

    def test_number_that_is_no_edge(self):
        for number in (-1, -4, 4, 5, 99, None, "0", (0,), True, False):
            with self.subTest(number):
                self.raises(errors.BadWay, 0, places_of, DIAMOND, (number,))
                self.raises(errors.BadWay, 1, places_of, DIAMOND, (0, number))
        self.raises(errors.BadWay, 0, places_of, Web(1, [], 0, [0]), (0,))

    def test_edge_that_does_not_begin_where_the_row_is(self):
        self.raises(errors.BadWay, 0, places_of, DIAMOND, (1,))
        self.raises(errors.BadWay, 1, places_of, DIAMOND, (0, 0))
        self.raises(errors.BadWay, 1, places_of, DIAMOND, [0, 3])
        self.raises(errors.BadWay, 2, places_of, DIAMOND, (0, 1, 0))

    def test_first_bad_index(self):
        self.raises(errors.BadWay, 1, places_of, DIAMOND, (0, 3, 99))
        self.raises(errors.BadWay, 1, places_of, DIAMOND, (0, 99, 3))

    def test_all_rows_of_up_to_four_edges(self):
        for length in range(5):
            for row in itertools.product(range(4), repeat=length):
                begins = [ROUNDS.entry] + [ROUNDS.edges[edge][1] for edge in row]
                wrong = [index for index, edge in enumerate(row) if ROUNDS.edges[edge][0] != begins[index]]
                if wrong:
                    self.raises(errors.BadWay, wrong[0], places_of, ROUNDS, row)
                else:
                    self.assertEqual(places_of(ROUNDS, row), tuple(begins))


class TestStepsOf(WayCase):
    def test_steps(self):
        self.assertEqual(
            list(steps_of(DIAMOND, (0, 1))),
            [
                ("gate", 4), ("place", 0), ("gate", 0), ("place", 1),
                ("gate", 1), ("place", 3), ("gate", 5),
            ],
        )

    def test_empty_way(self):
        self.assertEqual(list(steps_of(ROUNDS, ())), [("gate", 4), ("place", 1), ("gate", 5)])

    def test_way_through_rounds_to_another_exit(self):
        self.assertEqual(
            list(steps_of(ROUNDS, [0, 1, 2, 3, 2])),
            [
                ("gate", 4), ("place", 1), ("gate", 0), ("place", 1), ("gate", 1), ("place", 0),
                ("gate", 2), ("place", 2), ("gate", 3), ("place", 0), ("gate", 2), ("place", 2), ("gate", 6),
            ],
        )

    def test_steps_are_numbered_as_the_document_says(self):
        for way in ((), (0,), (0, 0, 1, 2), (1, 2, 3, 2)):
            steps, places = list(steps_of(ROUNDS, way)), places_of(ROUNDS, way)
            self.assertEqual(len(steps), 2 * len(way) + 3)
            for number, edge in enumerate(way, 1):
                self.assertEqual(steps[2 * number], ("gate", edge))
                self.assertEqual(steps[2 * number + 1], ("place", places[number]))

    def test_steps_are_tuples(self):
        self.assertEqual({step.__class__ for step in steps_of(DIAMOND, [0, 1])}, {tuple})

    def test_way_is_not_changed(self):
        way = [0, 1]
        list(steps_of(DIAMOND, way))
        self.assertEqual(way, [0, 1])

    def test_bad_way(self):
        for number in (-1, 4, 99, None, "1", (1,), True):
            with self.subTest(number):
                self.raises(errors.BadWay, 1, steps_of, DIAMOND, (0, number))
        self.raises(errors.BadWay, 0, steps_of, DIAMOND, (1,))
        self.raises(errors.BadWay, 1, steps_of, DIAMOND, (0, 3, 99))

    def test_way_that_ends_at_no_exit(self):
        self.raises(errors.NotWhole, 0, steps_of, DIAMOND, ())
        self.raises(errors.NotWhole, 2, steps_of, DIAMOND, [2])
        self.raises(errors.NotWhole, 0, steps_of, ROUNDS, (0, 1))

    def test_bad_way_ahead_of_not_whole(self):
        self.raises(errors.BadWay, 1, steps_of, DIAMOND, (0, 3))
        self.raises(errors.BadWay, 1, steps_of, DIAMOND, (0, 0))

    def test_it_is_a_generator_that_raises_when_it_is_iterated(self):
        for way, error in (((1,), errors.BadWay), ((0,), errors.NotWhole)):
            steps = steps_of(DIAMOND, way)
            self.assertTrue(inspect.isgenerator(steps))
            self.assertRaises(error, next, steps)


if __name__ == "__main__":
    unittest.main()
