"""Searches along links: dicts from nodes to lists of pairs (next node, label)."""


def came_from(links, starts):
    """How the links first lead to each node: a dict to pairs (node ahead, label), None for the starts.

    Its nodes stand in the order of their distance from the starts.
    """
    came = {node: None for node in starts}
    waiting = list(came)
    at = 0
    while at < len(waiting):
        node = waiting[at]
        at += 1
        for other, label in links.get(node, []):
            if other not in came:
                came[other] = (node, label)
                waiting.append(other)
    return came


def row_to(came, node):
    """The list of the labels from a start to a node to which the search came."""
    row = []
    link = came[node]
    while link is not None:
        row.append(link[1])
        link = came[link[0]]
    return row[::-1]


def row_between(links, starts, goals):
    """The labels of a shortest row from one of the starts to one of the goals, or None."""
    came = came_from(links, starts)
    for node in came:
        if node in goals:
            return row_to(came, node)
    return None


def turned(links):
    """The links that lead the other way."""
    found = {}
    for node in links:
        for other, label in links[node]:
            found.setdefault(other, []).append((node, label))
    return found
