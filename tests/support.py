"""What several tests share: drawn webs, and plain definitions to compare the program with."""

import itertools
import unittest

from savedseats import errors
from savedseats.lots import Lot, Placing
from savedseats.prices import Prices
from savedseats.webs import Web

DIAMOND = Web(4, [(0, 1), (1, 3), (0, 2), (2, 3)], 0, [3])
# A web with an edge from a place to itself, rounds, and an entry that is not the first place.
ROUNDS = Web(3, [(1, 1), (1, 0), (0, 2), (2, 0)], 1, [2, 1])
POINT = Web(1, [], 0, [0])
LOOP = Web(1, [(0, 0)], 0, [0])

# What is no whole way of any web here, as a paper.
NO_WAYS = (
    0, 1, -1, 2.5, True, False, None, "", "01", "way", b"", [], [0, 1], [[0], [1]], {}, {0: 1}, set(), {0, 1},
    ("0",), ("0", "1"), ("",), (None,), (True,), (False,), (True, False), (False, True), (0, True), (False, 1),
    (0, None), (0, 1, None), (-1,), (-4, -3), (99,), (0, 99), (10 ** 9,), ((0, 1),), ([0], [1]), (0, (1,)),
    (0.0, 1.0), (0, 1.0), object(), Lot([0]), Lot([]), Placing([], []), range(0), iter(()), (Lot([0]),), ((),),
)


# What is neither a pair of a way and heights, nor a triple of rows, nor heights, nor a whole way of any web here.
NO_PAPERS = NO_WAYS + (
    ((), (), ()), ((), ()), ((),) * 4, ((0, 1), None), (None, (0, 0, 0, 0)), (None, None), (None, None, None),
    ("", "", ""), ("", ""), ("to", "round", "on"), ((0,), "12", (3,)), ((0,), None, (3,)), (0, 1, 2.0), (1, (0,)),
    ([], [0], []), ((), [0], ()), ([], (0,), ()), ((), (0,), []), ((), (True,), ()), ((), (False,), ()),
    ((False,), (0,), ()), ((), (None,), ()), ((), ("0",), ()), ((), (-1,), ()), ((), (99,), ()), ((), ((0,),), ()),
    ((), {0: 0}, ()), ((), Lot([0]), ()), (Lot([]), (0,), ()), ((), (0,), Lot([])), [(), (0,), ()], [(), ()],
    ((), [0]), ([], (0,)), ((), Lot([0])), ((), (None,)), ((), ("0",)), ((), (0.0,)), ((0, 1), [0, 0, 0, 0]),
)


class SeatCase(unittest.TestCase):
    def raises(self, error, value, told, *passed):
        """Check that the call raises this error with this value as its attribute; None stands for no attribute."""
        with self.assertRaises(errors.SeatError) as caught:
            told(*passed)
        self.assertEqual(caught.exception.__class__, error)
        held = list(vars(caught.exception).values())
        self.assertEqual(held, [] if value is None and not held else [value])


def chain(places):
    """A web whose places follow each other."""
    return Web(places, [(place, place + 1) for place in range(places - 1)], 0, [places - 1])


def drawn_web(rng, places, edges):
    """A drawn web with so many places and up to so many edges."""
    pairs = list(itertools.product(range(places), repeat=2))
    while True:
        drawn = rng.sample(pairs, min(len(pairs), rng.randint(max(0, places - 1), edges)))
        exits = rng.sample(range(places), rng.randint(1, places))
        try:
            return Web(places, drawn, rng.randrange(places), exits)
        except errors.Idle:
            continue


def large_web(rng, places=24, edges=80):
    """A drawn web of many places, on a chain so that no place is idle."""
    drawn = [(place, place + 1) for place in range(places - 1)]
    others = [pair for pair in itertools.product(range(places), repeat=2) if pair not in drawn]
    drawn += rng.sample(others, edges - len(drawn))
    rng.shuffle(drawn)
    return Web(places, drawn, 0, [places - 1, *rng.sample(range(places), rng.randint(0, 4))])


def drawn_lot(rng, web, most=None):
    """A drawn lot of the web."""
    count = rng.randint(0, web.places if most is None else most)
    return Lot(rng.sample(range(web.places), count))


def drawn_prices(rng, web, greatest, barred):
    """Drawn prices, a share of them None."""
    def row():
        return [None if rng.random() < barred else rng.randint(0, greatest) for _ in range(web.gates)]
    return Prices(web, row(), row())


def all_lots(web, uses):
    """All lots of a web with all the uses."""
    rows = itertools.product((False, True), repeat=web.places)
    lots = [Lot([place for place in range(web.places) if row[place]]) for row in rows]
    return [lot for lot in lots if set(uses.places) <= set(lot.places)]


def marks_of(web, lot):
    """The set of marks (gate, word) of a lot, from the web's edges, entry and exits."""
    inside = set(lot.places)
    gates = [*web.edges, (None, web.entry), *[(place, None) for place in web.exits]]
    saves = {(gate, "save") for gate, (begin, end) in enumerate(gates) if end in inside and begin not in inside}
    backs = {(gate, "back") for gate, (begin, end) in enumerate(gates) if begin in inside and end not in inside}
    return saves | backs


def marked(marks):
    """The placing with these marks."""
    return Placing(
        [gate for gate, word in marks if word == "save"], [gate for gate, word in marks if word == "back"]
    )


def cost_of(web, lot, prices):
    """The cost of a lot, added up mark by mark; None if one is None."""
    worth = [(prices.saves if word == "save" else prices.backs)[gate] for gate, word in marks_of(web, lot)]
    return None if None in worth else sum(worth)


def least_of(costs):
    """The least of some costs; None if there is no number among them."""
    return min([worth for worth in costs if worth is not None], default=None)


def whole_ways(web, most):
    """All whole ways of up to so many edges."""
    found, ways = [], [((), web.entry)]
    for _ in range(most + 1):
        found += [way for way, place in ways if place in web.exits]
        ways = [
            (way + (edge,), end) for way, place in ways
            for edge, (begin, end) in enumerate(web.edges) if begin == place
        ]
    return found


def fault_of(web, uses, placing, way):
    """The first fault of a whole way, from the text of the document."""
    place = web.entry
    steps = [("gate", len(web.edges)), ("place", place)]
    for edge in way:
        assert web.edges[edge][0] == place
        place = web.edges[edge][1]
        steps += [("gate", edge), ("place", place)]
    steps.append(("gate", len(web.edges) + 1 + list(web.exits).index(place)))
    seat = "clean"
    for number, (kind, at) in enumerate(steps):
        if kind == "gate" and at in placing.saves:
            if seat == "saved":
                return (number, "saved twice")
            seat = "saved"
        elif kind == "gate" and at in placing.backs:
            if seat == "clean":
                return (number, "not saved")
            seat = "clean"
        elif kind == "place" and at in uses.places and seat == "clean":
            return (number, "used")
    return (len(steps), "left") if seat == "saved" else None


def gates_along(web, way):
    """The gates of a whole way, from the web's edges, entry and exits."""
    place = web.entry
    for edge in way:
        assert web.edges[edge][0] == place
        place = web.edges[edge][1]
    return [len(web.edges), *way, len(web.edges) + 1 + list(web.exits).index(place)]


def walked(web, start, follow):
    """All pairs (place, what matters there) of ways: start is the first one, follow(what, edge, end) the next."""
    seen, waiting = {(web.entry, start)}, [(web.entry, start)]
    while waiting:
        place, what = waiting.pop()
        for edge, (begin, end) in enumerate(web.edges):
            state = (end, follow(what, edge, end))
            if begin == place and state not in seen:
                seen.add(state)
                waiting.append(state)
    return seen


def row_ends(web, place, row):
    """Where a row that begins at a place ends; None if the value is no tuple of edges that follow each other."""
    if row.__class__ is not tuple:
        return None
    for edge in row:
        if edge.__class__ is not int or not 0 <= edge < len(web.edges) or web.edges[edge][0] != place:
            return None
        place = web.edges[edge][1]
    return place


def goes_round(web, paper):
    """Whether the paper is a triple (to, round, on) as in point 31, whatever the round brings."""
    if paper.__class__ is not tuple or len(paper) != 3:
        return False
    to, turn, on = paper
    place = row_ends(web, web.entry, to)
    if place is None or turn.__class__ is not tuple or not turn:
        return False
    return row_ends(web, place, turn) == place and row_ends(web, place, on) in web.exits


def near_papers(rng, paper):
    """Papers that differ from a paper, which is a tuple, in one place."""
    at = rng.randrange(len(paper)) if paper else 0
    found = [paper + (0,), paper + ((),), paper[:-1], list(paper), (paper,), paper[::-1]]
    if paper:
        inner = paper[at]
        others = [None, True, "0", [], (), 0, -1, 10 ** 6]
        if isinstance(inner, tuple):
            others += [list(inner), inner + (0,), inner[:-1], inner[1:], inner + inner, inner[::-1]]
        if isinstance(inner, int):
            others += [inner + 1, inner - 1]
        found += [paper[:at] + (other,) + paper[at + 1:] for other in others]
    return found
