"""Graphs: what is reached, what is in rings, and what is held from outside."""

from pyheap.errors import NoGraph
from pyheap.sizes import is_whole_within

GREATEST_NODE_COUNT = 40
GREATEST_SLOT_COUNT = 8
GREATEST_COUNT = 999


def are_nodes(thing, node_count):
    """Whether a thing is a list of nodes, of which some may be alike."""
    return isinstance(thing, list) and all([is_whole_within(part, 0, node_count - 1) for part in thing])


def are_unlike_nodes(thing, node_count):
    """Whether a thing is a list of nodes, none twice."""
    return are_nodes(thing, node_count) and len(set(thing)) == len(thing)


def is_graph(thing):
    """Whether a thing is a graph."""
    if not isinstance(thing, list) or len(thing) > GREATEST_NODE_COUNT:
        return False
    return all([are_nodes(row, len(thing)) and len(row) <= GREATEST_SLOT_COUNT for row in thing])


def are_counts(thing, rows):
    """Whether a thing is a list of counts for a graph."""
    if not isinstance(thing, list) or len(thing) != len(rows):
        return False
    leading = slots_leading(rows, list(range(len(rows))))
    return all([is_whole_within(count, leading[node], GREATEST_COUNT) for node, count in enumerate(thing)])


def check_graph(thing):
    """Refuse what is no graph."""
    if not is_graph(thing):
        raise NoGraph("a graph is a list of at most 40 lists of at most 8 nodes")


def check_unlike_nodes(thing, rows):
    """Refuse what is no list of unlike nodes of a graph."""
    if not are_unlike_nodes(thing, len(rows)):
        raise NoGraph("no list of unlike nodes of the graph")


def check_all(rows, counts, order):
    """Refuse what is no graph, or no order or counts for it."""
    check_graph(rows)
    check_unlike_nodes(order, rows)
    if not are_counts(counts, rows):
        raise NoGraph("no list of counts for the nodes of the graph")


def slots_leading(rows, nodes):
    """For each node of the graph, how many slots of these nodes lead to it."""
    many = [0] * len(rows)
    for node in nodes:
        for other in rows[node]:
            many[other] += 1
    return many


def walked(rows, starts):
    """A dict with all nodes to which these lead in any number of steps, these too."""
    found = {node: True for node in starts}
    waiting = list(found)
    while waiting:
        node = waiting.pop()
        for other in rows[node]:
            if other not in found:
                found[other] = True
                waiting.append(other)
    return found


def reached(rows, starts):
    """A rising list of all nodes to which these lead in any number of steps, these too."""
    check_graph(rows)
    check_unlike_nodes(starts, rows)
    return sorted(walked(rows, starts))


def left_behind(rows):
    """All nodes of a dict of rows, as a walk that goes as deep as it can leaves them."""
    order = []
    seen = {}
    for start in rows:
        path = [] if start in seen else [(start, 0)]
        seen[start] = True
        while path:
            node, at = path.pop()
            if at == len(rows[node]):
                order.append(node)
                continue
            path.append((node, at + 1))
            other = rows[node][at]
            if other not in seen:
                seen[other] = True
                path.append((other, 0))
    return order


def turned(rows):
    """A dict of rows that lead the other way."""
    back = {node: [] for node in rows}
    for node in rows:
        for other in rows[node]:
            back[other].append(node)
    return back


def group_back_from(back, start, taken):
    """The start and all nodes not taken yet to which it leads; all of them are taken now."""
    taken[start] = True
    group = [start]
    at = 0
    while at < len(group):
        node = group[at]
        at += 1
        for other in back[node]:
            if other not in taken:
                taken[other] = True
                group.append(other)
    return group


def ring_groups(rows):
    """What rings tells, of a dict of rows: the nodes may be any numbers, and any number of them."""
    back = turned(rows)
    taken = {}
    groups = []
    # Of all nodes that are not taken yet, only its own group leads to the one that was left last.
    for start in reversed(left_behind(rows)):
        if start in taken:
            continue
        group = group_back_from(back, start, taken)
        if len(group) > 1 or start in rows[start]:
            groups.append(sorted(group))
    return sorted(groups)


def rings(rows):
    """A rising list of rising lists: the greatest groups of which each node leads to each."""
    check_graph(rows)
    return ring_groups(dict(enumerate(rows)))


def outer_marks(rows, counts, order):
    """A dict that has, for each node of the order, its count, less the slots of the order that lead to it."""
    marks = {node: counts[node] for node in order}
    for node in order:
        for other in rows[node]:
            if other in marks:
                marks[other] -= 1
    return marks


def outer_counts(rows, counts, order):
    """A list of tuples (node, many): its count, less the slots of the order that lead to it."""
    check_all(rows, counts, order)
    return list(outer_marks(rows, counts, order).items())


def sift(rows, counts, order):
    """What sifted tells, of lists or dicts of rows and of counts that are known to fit."""
    marks = outer_marks(rows, counts, order)
    line = list(order)
    at = 0
    kept = []
    aside = {}
    while at < len(line):
        node = line[at]
        at += 1
        if marks[node] == 0:
            aside[node] = True
            continue
        kept.append(node)
        for other in reversed(rows[node]):
            if marks.get(other) == 0:
                marks[other] = 1
                if other in aside:
                    del aside[other]
                    line.append(other)
    return (kept, list(aside))


def sifted(rows, counts, order):
    """A tuple (kept, lost): the nodes that are held from outside the order, and the others."""
    check_all(rows, counts, order)
    return sift(rows, counts, order)
