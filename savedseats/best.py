"""Best lots: those of the least cost."""

from savedseats.checks import check_lot, check_prices
from savedseats.cuts import full_net, largest_lot, smallest_lot
from savedseats.errors import TooMany
from savedseats.leastcost import least
from savedseats.lots import Lot
from savedseats.prices import cost
from savedseats.webs import OUTSIDE

MOST_TRIED = 12


def best_lots(web, uses, prices):
    """The pair of the least and the greatest best lot, or None if there is none."""
    check_lot(web, uses)
    check_prices(web, prices)
    net = full_net(web, prices, uses.places, (OUTSIDE,))
    if net is None:
        return None
    return smallest_lot(web, net, uses.places), largest_lot(web, net, (OUTSIDE,))


def count_best(web, uses, prices):
    """The number of best lots; all lots are tried."""
    least_cost = least(web, uses, prices).cost
    check_tried(web)
    if least_cost is None:
        return 0
    return len([lot for lot in lots_with(web, uses) if cost(web, lot, prices) == least_cost])


def check_tried(web):
    """Raise an error if the web has too many places for all its lots to be tried."""
    if web.places > MOST_TRIED:
        raise TooMany(web.places)


def lots_with(web, uses):
    """The list of all lots with all the uses."""
    rows = [uses.places]
    for place in range(web.places):
        if place not in uses:
            rows = rows + [row + (place,) for row in rows]
    return [Lot(row) for row in rows]
