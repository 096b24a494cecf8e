"""The least cost of lots under further conditions, found by trying all lots."""

from savedseats.best import check_tried, lots_with
from savedseats.checks import check_lot, check_prices
from savedseats.lots import Lot, placing_of
from savedseats.onway import most_saves
from savedseats.prices import cost
from savedseats.webs import reached


def is_steady(web, lot):
    """Whether no whole way has more than one save by the placing of a lot."""
    number = most_saves(web, lot).number
    return number is not None and number <= 1


def is_keen(web, uses, lot):
    """Whether each whole way has a use between each save and the next back by the placing of a lot."""
    check_lot(web, uses)
    placing = placing_of(web, lot)
    idle = lot - uses
    # Between a save and the next back a way is in the lot, where the edges have no marks.
    edges = [(begin, end) for begin, end in web.edges if begin in idle and end in idle]
    saved = [web.ends(gate)[1] for gate in placing.saves]
    found = reached(edges, [place for place in saved if place in idle])
    return not any([web.ends(gate)[0] in found for gate in placing.backs])


def least_tried(web, uses, prices, *, steady=False, keen=False):
    """The pair of the least cost and the first lot of this cost, under the conditions, or None if there is none."""
    check_lot(web, uses)
    check_prices(web, prices)
    check_tried(web)
    best = None
    for lot in lots_with(web, uses):
        worth = cost(web, lot, prices)
        if worth is not None:
            rank = (worth, len(lot), lot.places)
            # The conditions take longest to look at, so they come last.
            if (best is None or rank < best) and fits(web, uses, lot, steady, keen):
                best = rank
    if best is None:
        return None
    return best[0], Lot(best[2])


def fits(web, uses, lot, steady, keen):
    """Whether the lot is steady and keen, as far as each is asked for."""
    return (not steady or is_steady(web, lot)) and (not keen or is_keen(web, uses, lot))
