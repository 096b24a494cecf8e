"""The least cost of the lots with all the uses."""

from savedseats.checks import check_lot, check_prices
from savedseats.cuts import barred_row, full_net, smallest_lot
from savedseats.webs import OUTSIDE


class Least:
    """The least cost with a lot and a flow that show it, or a row that bars all lots."""

    def __init__(self, cost, lot, flow, row):
        self.cost = cost
        self.lot = lot
        self.flow = flow
        self.row = row


def least(web, uses, prices):
    """The least cost of all lots with all the uses, and its papers."""
    check_lot(web, uses)
    check_prices(web, prices)
    net = full_net(web, prices, uses.places, (OUTSIDE,))
    if net is None:
        return Least(None, None, None, barred_row(web, prices, uses.places, (OUTSIDE,)))
    lot = smallest_lot(web, net, uses.places)
    return Least(net.value, lot, net.flowing(), None)
