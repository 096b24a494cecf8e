"""How high whole ways climb, where each gate rises by an integer: rises is the list of them, by gate."""

from savedseats.checks import is_number
from savedseats.errors import BadWay, NotWhole
from savedseats.rows import has_round, row_in, row_out
from savedseats.ways import gates_of


class Climb:
    """The greatest height at which ways come to each place, and the last edges of such ways: dicts by place.

    Where rounds rise there are no greatest heights: endless is a place at which they still grow, else None.
    """

    def __init__(self, heights, lasts, endless):
        self.heights = heights
        self.lasts = lasts
        self.endless = endless


def climb(web, rises):
    """How high ways come, behind IN."""
    heights = {web.entry: rises[web.gate_in()]}
    lasts = {}
    # A highest way without rounds has fewer edges than there are places, so only rounds rise in the last pass.
    for _ in range(web.places):
        endless = None
        for edge, (begin, end) in enumerate(web.edges):
            if begin in heights:
                height = heights[begin] + rises[edge]
                if end not in heights or height > heights[end]:
                    heights[end] = height
                    lasts[end] = edge
                    endless = end
    return Climb(heights, lasts, endless)


def heights_of(web, found):
    """The tuple of the heights of a climb."""
    return tuple([found.heights[place] for place in range(web.places)])


def highest_way(web, rises, found):
    """A whole way that rises most, where heights have bounds."""
    row = []
    place = highest_exit(web, rises, found)
    while place in found.lasts:
        edge = found.lasts[place]
        row.append(edge)
        place = web.edges[edge][0]
    return tuple(row[::-1])


def highest_exit(web, rises, found):
    """The first exit behind whose OUT ways come highest."""
    best = web.exits[0]
    for place in web.exits:
        if height_out(web, rises, found.heights, place) > height_out(web, rises, found.heights, best):
            best = place
    return best


def height_out(web, rises, heights, place):
    """The height behind the OUT of an exit."""
    return heights[place] + rises[web.gate_out(place)]


def endless_paper(web, found):
    """The triple of a way, a round that rises, and a row out, where heights have no bounds."""
    place = found.endless
    # So many last edges back, the row of them surely goes in a round.
    for _ in range(web.places):
        place = web.edges[found.lasts[place]][0]
    turn = [found.lasts[place]]
    while web.edges[turn[-1]][0] != place:
        turn.append(found.lasts[web.edges[turn[-1]][0]])
    return tuple(row_in(web, place)), tuple(turn[::-1]), tuple(row_out(web, place))


def rise_along(web, rises, way):
    """By how much a whole way rises; None for whatever is no whole way, and no tuple."""
    if not isinstance(way, tuple):
        return None
    try:
        gates = gates_of(web, way)
    except (BadWay, NotWhole):
        return None
    return sum([rises[gate] for gate in gates])


def shows_endless(web, rises, paper):
    """Whether the value is a triple of a way, a round that rises, and a row out."""
    return has_round(web, paper) and sum([rises[edge] for edge in paper[1]]) > 0


def shows_bound(web, rises, bound, heights):
    """Whether the value is a tuple of heights which shows that no whole way rises above the bound."""
    if not isinstance(heights, tuple) or len(heights) != web.places:
        return False
    if not all([is_number(height) for height in heights]):
        return False
    for edge, (begin, end) in enumerate(web.edges):
        if heights[end] < heights[begin] + rises[edge]:
            return False
    outs = [height_out(web, rises, heights, place) for place in web.exits]
    return heights[web.entry] >= rises[web.gate_in()] and all([height <= bound for height in outs])
