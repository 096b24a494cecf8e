"""How often one whole way saves at most, by the placing of a lot."""

from savedseats.checks import is_number
from savedseats.climbs import climb, endless_paper, heights_of, highest_way, rise_along, shows_bound, shows_endless
from savedseats.lots import placing_of


class Most:
    """The greatest number of saves on one whole way, None if there is no greatest one, and a paper that shows it."""

    def __init__(self, number, paper):
        self.number = number
        self.paper = paper


def most_saves(web, lot):
    """The most saves that one whole way has by the placing of a lot."""
    rises = save_rises(web, lot)
    found = climb(web, rises)
    if found.endless is not None:
        return Most(None, endless_paper(web, found))
    way = highest_way(web, rises, found)
    return Most(rise_along(web, rises, way), (way, heights_of(web, found)))


def save_rises(web, lot):
    """The list of the number of saves at each gate, 0 or 1, by the placing of a lot."""
    placing = placing_of(web, lot)
    return [1 if gate in placing.saves else 0 for gate in range(web.gates)]


def shows_most(web, lot, number, paper):
    """Whether the paper shows that the number is the greatest one, or that there is none if it is None."""
    rises = save_rises(web, lot)
    if number is None:
        return shows_endless(web, rises, paper)
    if not is_number(number) or not isinstance(paper, tuple) or len(paper) != 2:
        return False
    way, heights = paper
    return rise_along(web, rises, way) == number and shows_bound(web, rises, number, heights)
