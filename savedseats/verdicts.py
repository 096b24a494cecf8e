"""Verdicts: whether a placing is right along all ways, with papers that show it."""

from savedseats.checks import check_lot, check_placing
from savedseats.errors import BadWay, NotWhole
from savedseats.lots import Lot, gate_fault, place_fault, placing_of, played, saved_behind
from savedseats.rows import row_out
from savedseats.search import came_from, row_to


class Verdict:
    """Whether a placing is right, and the lot or the way that shows it."""

    def __init__(self, right, paper):
        self.right = right
        self.paper = paper

    def __bool__(self):
        return self.right is True


def judge(web, uses, placing):
    """The verdict on a placing for uses."""
    check_lot(web, uses)
    check_placing(web, placing)
    gate_in = web.gate_in()
    if gate_fault(placing, False, gate_in) is not None:
        return Verdict(False, tuple(row_out(web, web.entry)))
    start = (web.entry, saved_behind(placing, False, gate_in))
    came = came_from(state_links(web, placing), [start])
    for state in came:
        rest = wrong_rest(web, uses, placing, state)
        if rest is not None:
            return Verdict(False, tuple(row_to(came, state) + rest))
    # Without a fault each place has one state: from two of them the same row out cannot be right twice.
    return Verdict(True, Lot([place for place, saved in came if saved]))


def state_links(web, placing):
    """The edges without a fault, as links between states: pairs (place, whether the seat is saved there)."""
    links = {}
    for edge, (begin, end) in enumerate(web.edges):
        for saved in (False, True):
            if gate_fault(placing, saved, edge) is None:
                behind = (end, saved_behind(placing, saved, edge))
                links.setdefault((begin, saved), []).append((behind, edge))
    return links


def wrong_rest(web, uses, placing, state):
    """A row on which a way that comes to this state is whole and has a fault next; None if there is none."""
    place, saved = state
    if place_fault(uses, saved, place) is not None:
        return row_out(web, place)
    for edge, (begin, end) in enumerate(web.edges):
        if begin == place and gate_fault(placing, saved, edge) is not None:
            return [edge] + row_out(web, end)
    if place in web.exits:
        gate = web.gate_out(place)
        if gate_fault(placing, saved, gate) is not None or saved_behind(placing, saved, gate):
            return []
    return None


def shows_right(web, uses, placing, lot):
    """Whether the lot shows that the placing is right."""
    check_lot(web, uses)
    check_placing(web, placing)
    check_lot(web, lot)
    return uses <= lot and placing == placing_of(web, lot)


def shows_wrong(web, uses, placing, way):
    """Whether the way shows that the placing is wrong; False for whatever is no whole way."""
    check_lot(web, uses)
    check_placing(web, placing)
    if not isinstance(way, tuple):
        return False
    try:
        return played(web, uses, placing, way) is not None
    except (BadWay, NotWhole):
        return False
