"""The cheapest cuts between places, by greatest flows."""

from savedseats.flows import arc_ends, arcs
from savedseats.lots import Lot
from savedseats.prices import lesser
from savedseats.search import came_from, row_between, turned


class Cut:
    """A greatest flow, with the smallest and the largest lot out of which no more can lead."""

    def __init__(self, flow, smallest, largest):
        self.flow = flow
        self.smallest = smallest
        self.largest = largest


def least_cut(web, prices, sources, sinks):
    """The cheapest cut of lots with all the sources and none of the sinks; None if all of these cost None.

    OUTSIDE is a sink. Where a place is both a source and a sink there are no such lots, so the cut is None.
    """
    if barred_row(web, prices, sources, sinks) is not None:
        return None
    pipes = pipes_of(web, prices)
    flow = greatest_flow(pipes, sources, sinks)
    links = open_links(pipes, flow)
    ahead = came_from(links, sources)
    behind = came_from(turned(links), sinks)
    smallest = Lot([place for place in range(web.places) if place in ahead])
    largest = Lot([place for place in range(web.places) if place not in behind])
    return Cut(flow, smallest, largest)


def barred_row(web, prices, sources, sinks):
    """A row of arcs with the room None from a source to a sink, as a tuple, or None.

    It is empty where a place is both a source and a sink.
    """
    links = {}
    for arc, begin, end, room in pipes_of(web, prices):
        if room is None:
            links.setdefault(begin, []).append((end, arc))
    row = row_between(links, sources, sinks)
    return None if row is None else tuple(row)


def pipes_of(web, prices):
    """The list of all arcs as (arc, from, to, room)."""
    pipes = []
    for arc in arcs(web):
        begin, end = arc_ends(web, arc)
        pipes.append((arc, begin, end, prices[arc]))
    return pipes


def greatest_flow(pipes, sources, sinks):
    """A flow of the greatest value from the sources to the sinks, where that has a bound."""
    flow = {}
    row = row_between(open_links(pipes, flow), sources, sinks)
    while row is not None:
        more = room_of(row)
        for arc, sign, _ in row:
            flow[arc] = flow.get(arc, 0) + sign * more
        row = row_between(open_links(pipes, flow), sources, sinks)
    return {arc: flow[arc] for arc in flow if flow[arc] > 0}


def room_of(row):
    """How much more can go along a row of labels of open links."""
    room = None
    for step in row:
        room = lesser(room, step[2])
    return room


def open_links(pipes, flow):
    """Links along which more can go, with labels (arc, 1 or -1 to take back, how much, None without bound)."""
    links = {}
    for arc, begin, end, room in pipes:
        number = flow.get(arc, 0)
        if room is None:
            links.setdefault(begin, []).append((end, (arc, 1, None)))
        elif number < room:
            links.setdefault(begin, []).append((end, (arc, 1, room - number)))
        if number > 0:
            links.setdefault(end, []).append((begin, (arc, -1, number)))
    return links
