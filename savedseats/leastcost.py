"""The least cost of the lots with all the uses."""

from savedseats.checks import check_lot, check_prices
from savedseats.cuts import barred_row, least_cut
from savedseats.flows import value_of
from savedseats.webs import OUTSIDE


class Least:
    """The least cost with a lot and a flow that show it, or a row that bars all lots."""

    def __init__(self, cost, lot, flow, row):
        self.cost = cost
        self.lot = lot
        self.flow = flow
        self.row = row


def least(web, uses, prices):
    """The least cost of all lots with all the uses, and its papers."""
    check_lot(web, uses)
    check_prices(web, prices)
    cut = least_cut(web, prices, uses.places, (OUTSIDE,))
    if cut is None:
        return Least(None, None, None, barred_row(web, prices, uses.places, (OUTSIDE,)))
    return Least(value_of(web, uses, prices, cut.flow), cut.smallest, cut.flow, None)
