"""Webs: places, edges, an entry and exits, and the gates between them."""

from savedseats.checks import check_gate, is_below, is_number
from savedseats.errors import BadEdge, BadEdges, BadEntry, BadExit, BadPlaces, Idle, NoExits

MOST_PLACES = 24
MOST_EDGES = 80
OUTSIDE = -1


class Web:
    """A web of numbered places, each of which lies on a whole way."""

    def __init__(self, places, edges, entry, exits):
        check_places(places)
        check_edges(places, edges)
        check_entry(places, entry)
        check_exits(places, exits)
        check_idle(places, edges, entry, exits)
        self.places = places
        self.edges = tuple([tuple(edge) for edge in edges])
        self.entry = entry
        self.exits = tuple(sorted(set(exits)))

    def __eq__(self, other):
        return (
            isinstance(other, Web)
            and self.places == other.places
            and self.edges == other.edges
            and self.entry == other.entry
            and self.exits == other.exits
        )

    @property
    def gates(self):
        """The number of gates."""
        return len(self.edges) + 1 + len(self.exits)

    def ends(self, gate):
        """The pair (from, to) of a gate."""
        check_gate(self, gate)
        return gate_pairs(self)[gate]

    def gate_in(self):
        """The number of IN."""
        return len(self.edges)

    def gate_out(self, place):
        """The number of OUT of an exit."""
        if place not in self.exits:
            raise BadExit(place)
        return self.gate_in() + 1 + self.exits.index(place)


def gate_pairs(web):
    """The tuple of the pairs (from, to) of all gates."""
    return web.edges + ((OUTSIDE, web.entry),) + tuple([(place, OUTSIDE) for place in web.exits])


def check_places(places):
    """Raise an error if the number of places is none that a web may have."""
    if not is_number(places) or not 1 <= places <= MOST_PLACES:
        raise BadPlaces(places)


def check_edges(places, edges):
    """Raise an error if there are too many edges, or for the first wrong one."""
    if len(edges) > MOST_EDGES:
        raise BadEdges(len(edges))
    seen = set()
    for index, edge in enumerate(edges):
        if not is_pair(places, edge) or tuple(edge) in seen:
            raise BadEdge(index)
        seen.add(tuple(edge))


def is_pair(places, edge):
    """Whether the edge is a pair of places."""
    if not isinstance(edge, (list, tuple)) or len(edge) != 2:
        return False
    return is_below(edge[0], places) and is_below(edge[1], places)


def check_entry(places, entry):
    """Raise an error if the entry is no place."""
    if not is_below(entry, places):
        raise BadEntry(entry)


def check_exits(places, exits):
    """Raise an error if there are no exits, or for the first wrong one."""
    if len(exits) == 0:
        raise NoExits()
    for place in exits:
        if not is_below(place, places):
            raise BadExit(place)


def check_idle(places, edges, entry, exits):
    """Raise an error for the least place that lies on no whole way."""
    ahead = reached(edges, [entry])
    # A place from which an exit is reached is reached from that exit backwards.
    behind = reached([(end, begin) for begin, end in edges], exits)
    for place in range(places):
        if place not in ahead or place not in behind:
            raise Idle(place)


def reached(edges, starts):
    """A dict of the places to which the edges lead from the starts, the starts too."""
    found = {place: True for place in starts}
    waiting = list(starts)
    while waiting:
        place = waiting.pop()
        for begin, end in edges:
            if begin == place and end not in found:
                found[end] = True
                waiting.append(end)
    return found
