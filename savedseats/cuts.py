"""The cheapest cuts between places, by greatest flows."""

from savedseats.lots import Lot
from savedseats.prices import BACK, SAVE, lesser
from savedseats.search import came_from, row_between, row_to, turned
from savedseats.webs import gate_pairs


class Net:
    """The arcs of a web, with what flows along them.

    Each arc has two links: link 2k goes along arc k, link 2k + 1 takes back what flows there. links is a dict from
    places to lists of (next place, link), rooms tells for each link how much more can go, None without bound. value
    is what flows from the sources to the sinks in all.
    """

    def __init__(self, web, prices):
        self.arcs = []
        self.links = {}
        self.rooms = []
        self.value = 0
        for gate, (begin, end) in enumerate(gate_pairs(web)):
            if begin != end:
                self.put((gate, BACK), begin, end, prices.backs[gate])
                self.put((gate, SAVE), end, begin, prices.saves[gate])

    def put(self, arc, begin, end, room):
        """Put in an arc, along which nothing flows yet."""
        link = 2 * len(self.arcs)
        self.arcs.append(arc)
        self.links.setdefault(begin, []).append((end, link))
        self.links.setdefault(end, []).append((begin, link + 1))
        self.rooms.append(room)
        self.rooms.append(0)

    def lead(self, row):
        """Lead as much as can go along a row of links, where that has a bound."""
        more = None
        for link in row:
            more = lesser(more, self.rooms[link])
        self.value = self.value + more
        for link in row:
            # The other link of the same arc.
            other = link ^ 1
            if self.rooms[link] is not None:
                self.rooms[link] = self.rooms[link] - more
            if self.rooms[other] is not None:
                self.rooms[other] = self.rooms[other] + more

    def flowing(self):
        """What flows, as a dict from arcs to numbers above 0."""
        numbers = self.rooms[1::2]
        return {arc: number for arc, number in zip(self.arcs, numbers) if number > 0}

    def open_links(self):
        """The links along which more can go."""
        return {
            place: [(other, link) for other, link in self.links[place] if self.rooms[link] != 0]
            for place in self.links
        }


def full_net(web, prices, sources, sinks):
    """A net with a greatest flow from the sources to the sinks, or None where that has no bound.

    OUTSIDE is a sink. It is None, too, where a place is both a source and a sink.
    """
    if barred_row(web, prices, sources, sinks) is not None:
        return None
    net = Net(web, prices)
    row = open_row(net, sources, sinks)
    while row is not None:
        net.lead(row)
        row = open_row(net, sources, sinks)
    return net


def open_row(net, sources, sinks):
    """A shortest row of links from a source to a sink along which more can go, or None."""
    came = {place: None for place in sources}
    waiting = list(came)
    at = 0
    while at < len(waiting):
        place = waiting[at]
        at += 1
        for other, link in net.links.get(place, []):
            if other not in came and net.rooms[link] != 0:
                came[other] = (place, link)
                if other in sinks:
                    return row_to(came, other)
                waiting.append(other)
    return None


def barred_row(web, prices, sources, sinks):
    """A row of arcs with the room None from a source to a sink, as a tuple, or None.

    It is empty where a place is both a source and a sink.
    """
    links = {}
    for gate, (begin, end) in enumerate(gate_pairs(web)):
        if begin != end:
            if prices.backs[gate] is None:
                links.setdefault(begin, []).append((end, (gate, BACK)))
            if prices.saves[gate] is None:
                links.setdefault(end, []).append((begin, (gate, SAVE)))
    row = row_between(links, sources, sinks)
    return None if row is None else tuple(row)


def smallest_lot(web, net, sources):
    """The least of the lots with the sources out of which no more can flow."""
    found = came_from(net.open_links(), sources)
    return Lot([place for place in range(web.places) if place in found])


def largest_lot(web, net, sinks):
    """The greatest of the lots without the sinks out of which no more can flow."""
    found = came_from(turned(net.open_links()), sinks)
    return Lot([place for place in range(web.places) if place not in found])
