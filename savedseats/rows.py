"""Rows of edges: shortest ones from the entry and to the exits, and what papers say of rows."""

from savedseats.checks import is_below
from savedseats.search import row_between


def edge_links(web):
    """The edges as links between places."""
    links = {}
    for edge, (begin, end) in enumerate(web.edges):
        links.setdefault(begin, []).append((end, edge))
    return links


def row_in(web, place):
    """A shortest way to a place, as a list."""
    return row_between(edge_links(web), [web.entry], [place])


def row_out(web, place):
    """A shortest row from a place to an exit, as a list."""
    return row_between(edge_links(web), [place], web.exits)


def row_end(web, place, row):
    """Where a row that begins at a place ends; None for whatever is no such row, and no tuple."""
    if not isinstance(row, tuple):
        return None
    for edge in row:
        if not is_below(edge, len(web.edges)) or web.edges[edge][0] != place:
            return None
        place = web.edges[edge][1]
    return place


def has_round(web, paper):
    """Whether the value is a triple: a way, a round where it ends, and a row from there to an exit."""
    if not isinstance(paper, tuple) or len(paper) != 3:
        return False
    to, turn, on = paper
    place = row_end(web, web.entry, to)
    if place is None or turn == () or row_end(web, place, turn) != place:
        return False
    return row_end(web, place, on) in web.exits
