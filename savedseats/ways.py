"""Ways: rows of edges that begin at the entry, and their places and steps."""

from savedseats.checks import is_below
from savedseats.errors import BadWay, NotWhole


def places_of(web, way):
    """The tuple of the places that a way visits; the way need not be whole."""
    places = [web.entry]
    for index, edge in enumerate(way):
        if not is_below(edge, len(web.edges)):
            raise BadWay(index)
        begin, end = web.edges[edge]
        if begin != places[-1]:
            raise BadWay(index)
        places.append(end)
    return tuple(places)


def places_of_whole(web, way):
    """The tuple of the places that a way visits; raises an error if it is not whole."""
    places = places_of(web, way)
    if places[-1] not in web.exits:
        raise NotWhole(places[-1])
    return places


def steps_of(web, way):
    """Yield the steps of a whole way, in order, as ("gate", gate) and ("place", place)."""
    places = places_of_whole(web, way)
    yield ("gate", web.gate_in())
    yield ("place", web.entry)
    for edge, place in zip(way, places[1:]):
        yield ("gate", edge)
        yield ("place", place)
    yield ("gate", web.gate_out(places[-1]))


def gates_of(web, way):
    """The list of the gates that a whole way goes through, each as often as it does."""
    places = places_of_whole(web, way)
    return [web.gate_in()] + list(way) + [web.gate_out(places[-1])]
