"""What the least cost is, and whether it is best to pay, as one price changes."""

from savedseats.checks import check_lot, check_prices
from savedseats.cuts import full_net, smallest_lot
from savedseats.flows import arc_ends
from savedseats.leastcost import least
from savedseats.prices import cost, lesser
from savedseats.webs import OUTSIDE


class Bend:
    """The least cost of the lots that pay at a gate by a word, and that of the other lots."""

    def __init__(self, paying, other):
        self.paying = paying
        self.other = other

    @property
    def price(self):
        """The price from which on a lot that does not pay is best, or None."""
        if self.other is None:
            return None
        if self.paying is not None and self.paying < self.other:
            return self.other - self.paying
        return 0

    def at(self, p):
        """The least cost if the price is p."""
        if self.paying is None or p is None:
            return self.other
        return lesser(self.paying + p, self.other)


def bend(web, uses, prices, gate, word):
    """The bend of the least cost at a gate by a word."""
    check_lot(web, uses)
    check_prices(web, prices)
    free = prices.with_price(gate, word, 0)
    barred = prices.with_price(gate, word, None)
    # Where the price bars, just the lots that pay there are left out.
    return Bend(paying_cost(web, uses, free, (gate, word)), least(web, uses, barred).cost)


def paying_cost(web, uses, prices, arc):
    """The least cost of the lots with all the uses out of which the arc leads, or None."""
    inner, outer = arc_ends(web, arc)
    # Where no lot can pay there, inner is OUTSIDE or outer, or outer is a use: there is no net then.
    sources = uses.places + (inner,)
    net = full_net(web, prices, sources, (OUTSIDE, outer))
    if net is None:
        return None
    return cost(web, smallest_lot(web, net, sources), prices)
