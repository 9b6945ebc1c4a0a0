"""Graphs: what is reached, what is in rings, and what is held from outside."""

from pyheap.errors import NoGraph
from pyheap.sizes import is_whole_within

GREATEST_NODE_COUNT = 40
GREATEST_SLOT_COUNT = 8
GREATEST_COUNT = 999


def are_nodes(thing, node_count):
    """Whether a thing is a list of nodes, of which some may be alike."""
    return isinstance(thing, list) and all([is_whole_within(part, 0, node_count - 1) for part in thing])


def are_unlike_nodes(thing, node_count):
    """Whether a thing is a list of nodes, none twice."""
    return are_nodes(thing, node_count) and len(set(thing)) == len(thing)


def is_graph(thing):
    """Whether a thing is a graph."""
    if not isinstance(thing, list) or len(thing) > GREATEST_NODE_COUNT:
        return False
    return all([are_nodes(row, len(thing)) and len(row) <= GREATEST_SLOT_COUNT for row in thing])


def are_counts(thing, rows):
    """Whether a thing is a list of counts for a graph."""
    if not isinstance(thing, list) or len(thing) != len(rows):
        return False
    leading = slots_leading(rows, list(range(len(rows))))
    return all([is_whole_within(count, leading[node], GREATEST_COUNT) for node, count in enumerate(thing)])


def check_graph(thing):
    """Refuse what is no graph."""
    if not is_graph(thing):
        raise NoGraph("a graph is a list of at most 40 lists of at most 8 nodes")


def check_unlike_nodes(thing, rows):
    """Refuse what is no list of unlike nodes of a graph."""
    if not are_unlike_nodes(thing, len(rows)):
        raise NoGraph("no list of unlike nodes of the graph")


def check_all(rows, counts, order):
    """Refuse what is no graph, or no order or counts for it."""
    check_graph(rows)
    check_unlike_nodes(order, rows)
    if not are_counts(counts, rows):
        raise NoGraph("no list of counts for the nodes of the graph")


def slots_leading(rows, nodes):
    """For each node of the graph, how many slots of these nodes lead to it."""
    many = [0] * len(rows)
    for node in nodes:
        for other in rows[node]:
            many[other] += 1
    return many


def walked(rows, starts):
    """A dict with all nodes to which these lead in any number of steps, these too."""
    found = {node: True for node in starts}
    waiting = list(found)
    while waiting:
        node = waiting.pop()
        for other in rows[node]:
            if other not in found:
                found[other] = True
                waiting.append(other)
    return found


def reached(rows, starts):
    """A rising list of all nodes to which these lead in any number of steps, these too."""
    check_graph(rows)
    check_unlike_nodes(starts, rows)
    return sorted(walked(rows, starts))


def rings(rows):
    """A rising list of rising lists: the greatest groups of which each node leads to each."""
    check_graph(rows)
    # A walk from what a node's slots lead to has the node itself only if it is in a ring.
    ahead = [walked(rows, row) for row in rows]
    groups = []
    for node in range(len(rows)):
        group = [other for other in sorted(ahead[node]) if node in ahead[other]]
        # Each ring is told once, by its least node.
        if group and group[0] == node:
            groups.append(group)
    return groups


def outer_counts(rows, counts, order):
    """A list of tuples (node, many): its count, less the slots of the order that lead to it."""
    check_all(rows, counts, order)
    leading = slots_leading(rows, order)
    return [(node, counts[node] - leading[node]) for node in order]


def sifted(rows, counts, order):
    """A tuple (kept, lost): the nodes that are held from outside the order, and the others."""
    marks = dict(outer_counts(rows, counts, order))
    line = list(order)
    kept = []
    aside = {}
    while line:
        node = line.pop(0)
        if marks[node] == 0:
            aside[node] = True
            continue
        kept.append(node)
        for other in reversed(rows[node]):
            if marks.get(other) == 0:
                marks[other] = 1
                if other in aside:
                    del aside[other]
                    line.append(other)
    return (kept, list(aside))
