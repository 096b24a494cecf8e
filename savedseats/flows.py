"""Arcs and flows, and the papers that show which cost is the least."""

from savedseats.checks import check_gate, check_lot, check_prices, is_below, is_number
from savedseats.prices import BACK, SAVE, WORDS, check_word, cost, price_at
from savedseats.webs import OUTSIDE, gate_pairs


def arcs(web):
    """The ascending tuple of all arcs (gate, word)."""
    found = []
    for gate, (begin, end) in enumerate(gate_pairs(web)):
        if begin != end:
            found.append((gate, BACK))
            found.append((gate, SAVE))
    return tuple(found)


def arc_ends(web, arc):
    """The pair (from, to) of an arc: out of each lot that has this mark."""
    gate, word = arc
    check_gate(web, gate)
    check_word(word)
    return ends_of(gate_pairs(web), arc)


def ends_of(pairs, arc):
    """The pair (from, to) of an arc that there is, by the pairs of the gates."""
    gate, word = arc
    begin, end = pairs[gate]
    if word == SAVE:
        return end, begin
    return begin, end


def value_of(web, uses, prices, flow):
    """The value of a flow for uses; None for whatever is no flow."""
    check_lot(web, uses)
    check_prices(web, prices)
    if not isinstance(flow, dict):
        return None
    pairs = gate_pairs(web)
    if not all([is_arc(pairs, arc) and has_room(prices, arc, flow[arc]) for arc in flow]):
        return None
    return balanced_value(web, uses, flow)


def balanced_value(web, uses, flow):
    """The value of a dict from arcs to numbers within their rooms; None if it is no flow."""
    pairs = gate_pairs(web)
    out = {place: 0 for place in range(OUTSIDE, web.places)}
    for arc in flow:
        begin, end = ends_of(pairs, arc)
        if flow[arc] > 0 and (begin == OUTSIDE or end in uses):
            return None
        out[begin] = out[begin] + flow[arc]
        out[end] = out[end] - flow[arc]
    for place in range(web.places):
        if place not in uses and out[place] != 0:
            return None
    return sum([out[place] for place in uses])


def is_arc(pairs, value):
    """Whether the value is an arc of a web with these pairs of gates, and no list."""
    if not isinstance(value, tuple) or len(value) != 2:
        return False
    gate, word = value
    if not is_below(gate, len(pairs)) or word not in WORDS:
        return False
    begin, end = pairs[gate]
    return begin != end


def has_room(prices, arc, number):
    """Whether the value is a number for which the arc has room."""
    gate, word = arc
    room = price_at(prices, gate, word)
    return is_number(number) and number >= 0 and (room is None or number <= room)


def shows_least(web, uses, prices, lot, flow):
    """Whether the lot and the flow show together that nothing is cheaper than the lot."""
    value = value_of(web, uses, prices, flow)
    least_cost = cost(web, lot, prices)
    return uses <= lot and value is not None and value == least_cost


def shows_barred(web, uses, prices, row):
    """Whether the row shows that all lots with all the uses cost None."""
    check_lot(web, uses)
    check_prices(web, prices)
    if not isinstance(row, tuple) or len(row) == 0:
        return False
    pairs = gate_pairs(web)
    if not all([is_arc(pairs, arc) and prices[arc] is None for arc in row]):
        return False
    ends = [ends_of(pairs, arc) for arc in row]
    joined = all([ends[index][1] == ends[index + 1][0] for index in range(len(ends) - 1)])
    return joined and ends[0][0] in uses and ends[-1][1] == OUTSIDE
