"""Whether one lot is ever dearer than another one along a whole way."""

from savedseats.checks import check_lot, check_prices
from savedseats.climbs import climb, endless_paper, heights_of, highest_way, rise_along, shows_bound, shows_endless
from savedseats.errors import Barred
from savedseats.lots import placing_of
from savedseats.prices import added, cost
from savedseats.ways import gates_of


class Answer:
    """Whether a lot is dearer along some whole way, and the paper that shows it."""

    def __init__(self, found, paper):
        self.found = found
        self.paper = paper

    def __bool__(self):
        return self.found is True


def along(web, prices, lot, way):
    """The cost of a lot along a whole way, or None."""
    check_prices(web, prices)
    worths = mark_prices(web, prices, lot)
    return added([worths[gate] for gate in gates_of(web, way)])


def mark_prices(web, prices, lot):
    """The list of the prices of the marks of a lot's placing by gate, 0 where there is none."""
    placing = placing_of(web, lot)
    worths = [0] * web.gates
    for gate in placing.saves:
        worths[gate] = prices.saves[gate]
    for gate in placing.backs:
        worths[gate] = prices.backs[gate]
    return worths


def dearer(web, prices, first, second):
    """Whether the first lot costs more than the second one along some whole way."""
    rises = price_rises(web, prices, first, second)
    found = climb(web, rises)
    if found.endless is not None:
        return Answer(True, endless_paper(web, found))
    way = highest_way(web, rises, found)
    if rise_along(web, rises, way) > 0:
        return Answer(True, way)
    return Answer(False, heights_of(web, found))


def price_rises(web, prices, first, second):
    """The list of what the first lot pays more than the second one, by gate."""
    check_prices(web, prices)
    check_lot(web, first)
    check_lot(web, second)
    for index, lot in enumerate((first, second)):
        if cost(web, lot, prices) is None:
            raise Barred(index)
    ours = mark_prices(web, prices, first)
    theirs = mark_prices(web, prices, second)
    return [ours[gate] - theirs[gate] for gate in range(web.gates)]


def shows_dearer(web, prices, first, second, paper):
    """Whether the paper shows that the first lot is dearer along some whole way."""
    rises = price_rises(web, prices, first, second)
    if shows_endless(web, rises, paper):
        return True
    rise = rise_along(web, rises, paper)
    return rise is not None and rise > 0


def shows_never(web, prices, first, second, paper):
    """Whether the paper shows that the first lot is never dearer."""
    return shows_bound(web, price_rises(web, prices, first, second), 0, paper)
