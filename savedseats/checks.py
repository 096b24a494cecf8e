"""Checks of values that several modules make."""

from savedseats.errors import BadPlace, NoGate, OtherWeb


def is_number(value):
    """Whether the value is an integer."""
    # Python counts True and False as integers; here they are no numbers.
    return isinstance(value, int) and not isinstance(value, bool)


def is_below(value, limit):
    """Whether the value is an integer from 0 to limit - 1."""
    return is_number(value) and 0 <= value < limit


def check_gate(web, gate):
    """Raise an error if the web has no gate of this number."""
    if not is_below(gate, web.gates):
        raise NoGate(gate)


def check_lot(web, lot):
    """Raise an error for the least place of a lot that the web does not have."""
    for place in lot:
        if place >= web.places:
            raise BadPlace(place)


def check_placing(web, placing):
    """Raise an error for the least gate of a placing that the web does not have."""
    for gate in sorted(set(placing.saves + placing.backs)):
        check_gate(web, gate)


def check_prices(web, prices):
    """Raise an error if the prices were made for a web that is not equal to this one."""
    if prices.web != web:
        raise OtherWeb()
