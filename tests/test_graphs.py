"""Graphs: reaching, rings, outer counts and sifting (3.1 to 3.3, 0.2 (i), and what 0.3 says of them)."""

import copy
import itertools
import unittest

from helping import FAR_OFF, NO_LISTS, NO_WHOLE_NUMBERS, Numbers, Refusing
from pyheap.errors import NoGraph
from pyheap.graphs import is_graph, outer_counts, reached, rings, sifted

SIX_DEEP = [[[[[[0]]]]]]
NO_ROWS = (*NO_LISTS, [[0]], [None], ["0"], [True], [False], [0, True], [()], [(0,)], SIX_DEEP)
NO_GRAPHS = (
    *NO_LISTS, *[[row] for row in NO_ROWS], *[[[0], [0, 1], row] for row in NO_ROWS],
    [0], [0, 1], [[1]], [[-1]], [[0], [2]], [[0], [0, 1, 2]], [[0, 1], [-1]], [[0], [1, -2]], [[], [], [3]],
    [[True]], [[False]], [[1], [True]], [[0, False], [0]], [[], [0, None]], [[10 ** 5000]], [[-10 ** 5000]],
    [[0] * 9], [[0], [1, 0, 1, 0, 1, 0, 1, 0, 1]], [[0] * 100], [[]] * 41, [[0]] * 41, [[0]] * 1000,
    [[0], (0,)], [[0], "0"], [[0], None], [[0], 0], [[0], [[1]]], SIX_DEEP,
)
GRAPHS = (
    [], [[]], [[0]], [[0] * 8], [[], []], [[1], [0]], [[1, 1, 1], []], [[1], [2], [0]], [[0, 1], [1, 0]],
    [[]] * 40, [[39] * 8] * 40, [[(node + 1) % 40] for node in range(40)],
)
# Of a graph of three nodes.
NO_NODE_LISTS = (
    *NO_LISTS, (0, 1, 2), "012", [0, 0], [0, 1, 0], [2, 1, 2], [0, 1, 2, 0], [3], [0, 3], [-1], [0, 1, -1],
    [True], [False], [0, True], [0, 1, False], [None], [0, None], ["0"], [[0]], [[0], [1]], [(0,)], [0, [1]],
    [10 ** 5000], [-10 ** 5000], SIX_DEEP, [0, 1, 2, 3],
)


def many_graphs(count, most_nodes, most_slots):
    for at in range(count):
        numbers = Numbers(at)
        size = 1 + numbers.below(most_nodes)
        yield [[numbers.below(size) for _ in range(numbers.below(most_slots + 1))] for _ in range(size)]


def all_graphs(size, most_slots):
    """All graphs of so many nodes with so many slots at most."""
    rows = [
        list(row) for many in range(most_slots + 1) for row in itertools.product(range(size), repeat=many)
    ]
    return [list(graph) for graph in itertools.product(rows, repeat=size)]


def slots_into(rows, node):
    return sum(row.count(node) for row in rows)


def some_counts(rows, numbers):
    """Counts of which about half are just what the slots make."""
    return [slots_into(rows, node) + max(0, numbers.below(5) - 2) for node in range(len(rows))]


def leads(rows, start, end):
    """Whether a node leads to another in one step or more: step by step, as far as there are nodes."""
    here = set(rows[start])
    for _ in rows:
        here |= {other for node in here for other in rows[node]}
    return end in here


def ways_of(things):
    """All orders of some of these, none among them."""
    return [list(way) for many in range(len(things) + 1) for way in itertools.permutations(things, many)]


class Unchanging(Refusing):
    def told(self, function, *things):
        """What a function tells twice, while what is handed in stays."""
        before = copy.deepcopy(things)
        told = function(*things)
        self.assertEqual(things, before)
        self.assertEqual(function(*things), told)
        return told


class IsGraph(Unchanging):
    def test_graphs(self):
        for at, thing in enumerate(GRAPHS):
            with self.subTest(at=at):
                self.assertIs(self.told(is_graph, thing), True)

    def test_many_graphs(self):
        for rows in [*all_graphs(2, 3), *many_graphs(100, 40, 8)]:
            self.assertIs(is_graph(rows), True, rows)

    def test_all_other_things_are_none(self):
        for at, thing in enumerate((*NO_GRAPHS, *FAR_OFF)):
            with self.subTest(at=at):
                self.assertIs(self.told(is_graph, thing), False)

    def test_at_most_40_rows_and_8_slots(self):
        for many in (39, 40, 41, 42, 100):
            for slots in (0, 7, 8, 9, 10):
                with self.subTest(many=many, slots=slots):
                    rows = [[0] * slots for _ in range(many)]
                    self.assertIs(is_graph(rows), many <= 40 and slots <= 8)

    def test_one_wrong_row_is_enough(self):
        for at in range(40):
            for wrong in ([40], [-1], [0] * 9, [True], (0,), None):
                rows = [[0] for _ in range(40)]
                rows[at] = wrong
                self.assertIs(is_graph(rows), False, (at, wrong))


class Reached(Unchanging):
    def test_by_hand(self):
        rows = [[1, 1], [2], [1], [0, 3], [], [4, 4, 4]]
        told = {(): [], (0,): [0, 1, 2], (2,): [1, 2], (3,): [0, 1, 2, 3], (4,): [4], (5,): [4, 5]}
        told.update({(5, 0): [0, 1, 2, 4, 5], (4, 2): [1, 2, 4], (5, 4, 3, 2, 1, 0): [0, 1, 2, 3, 4, 5]})
        for starts, due in told.items():
            with self.subTest(starts=starts):
                self.assertEqual(self.told(reached, rows, list(starts)), due)

    def test_the_empty_graph(self):
        self.assertEqual(self.told(reached, [], []), [])

    def test_a_long_chain(self):
        rows = [[node + 1] for node in range(39)] + [[]]
        self.assertEqual(reached(rows, [0]), list(range(40)))
        self.assertEqual(reached(rows, [30, 12]), list(range(12, 40)))
        self.assertEqual(reached([[39] * 8] * 40, [0]), [0, 39])

    def test_beside_single_steps(self):
        for rows in many_graphs(150, 10, 3):
            for start in range(len(rows)):
                due = [node for node in range(len(rows)) if node == start or leads(rows, start, node)]
                self.assertEqual(self.told(reached, rows, [start]), due, rows)

    def test_several_starts_reach_what_each_reaches(self):
        for at, rows in enumerate(many_graphs(150, 10, 2)):
            numbers = Numbers(at)
            starts = numbers.mixed(range(len(rows)))[:numbers.below(len(rows) + 1)]
            due = sorted({node for start in starts for node in reached(rows, [start])})
            self.assertEqual(self.told(reached, rows, starts), due, (rows, starts))

    def test_told_lists_are_new_ones(self):
        rows, starts = [[1], [0], []], [0, 1, 2]
        told = reached(rows, starts)
        told.clear()
        self.assertEqual((rows, starts), ([[1], [0], []], [0, 1, 2]))
        self.assertEqual(reached(rows, starts), [0, 1, 2])

    def test_what_is_no_graph_is_refused(self):
        for at, thing in enumerate(NO_GRAPHS):
            with self.subTest(at=at):
                self.assert_refused(NoGraph, reached, thing, [])
                self.assert_refused(NoGraph, reached, thing, [0])
                self.assert_refused(NoGraph, reached, thing, thing)

    def test_what_are_no_unlike_nodes_is_refused(self):
        for at, thing in enumerate(NO_NODE_LISTS):
            for rows in ([[1], [2], [0]], [[], [], []]):
                with self.subTest(at=at, rows=rows):
                    self.assert_refused(NoGraph, reached, rows, thing)

    def test_the_empty_graph_has_no_node(self):
        for starts in ([0], [-1], [None], ()):
            self.assert_refused(NoGraph, reached, [], starts)


class Rings(Unchanging):
    def test_by_hand(self):
        for rows, due in (
            ([], []), ([[]], []), ([[0]], [[0]]), ([[0] * 8], [[0]]), ([[1], []], []), ([[1], [0]], [[0, 1]]),
            ([[1], [1]], [[1]]), ([[0], [1]], [[0], [1]]), ([[1, 2], [2], []], []),
            ([[2], [3], [0], [1]], [[0, 2], [1, 3]]), ([[3], [2], [1], [0], [0, 1]], [[0, 3], [1, 2]]),
            ([[1], [2], [0, 3], [4], [3], [5, 0]], [[0, 1, 2], [3, 4], [5]]),
            ([[1], [0, 2], [1, 3], [2]], [[0, 1, 2, 3]]), ([[1, 1], [2, 2], [0, 0]], [[0, 1, 2]]),
        ):
            with self.subTest(rows=rows):
                self.assertEqual(self.told(rings, rows), due)

    def test_one_ring_of_forty(self):
        self.assertEqual(rings([[(node + 7) % 40] for node in range(40)]), [list(range(40))])
        self.assertEqual(rings([[39 - node] for node in range(40)]), [[node, 39 - node] for node in range(20)])

    def greatest_groups(self, rows):
        """All greatest groups, sought among all groups."""
        pairs = {(a, b) for a in range(len(rows)) for b in range(len(rows)) if leads(rows, a, b)}
        groups = []
        for many in range(len(rows), 0, -1):
            for group in itertools.combinations(range(len(rows)), many):
                if all(pair in pairs for pair in itertools.product(group, repeat=2)):
                    if not any(set(group) < set(other) for other in groups):
                        groups.append(list(group))
        return sorted(groups)

    def test_beside_all_groups(self):
        for rows in [*all_graphs(2, 2), *many_graphs(200, 7, 2), *many_graphs(60, 8, 3)]:
            self.assertEqual(self.told(rings, rows), self.greatest_groups(rows), rows)

    def test_beside_single_steps(self):
        for rows in many_graphs(200, 10, 2):
            ahead = [[other for other in range(len(rows)) if leads(rows, node, other)] for node in range(len(rows))]
            groups = {
                tuple(other for other in ahead[node] if node in ahead[other]) for node in range(len(rows))
            }
            self.assertEqual(rings(rows), sorted(map(list, groups - {()})), rows)

    def test_told_lists_are_new_ones(self):
        rows = [[1], [0], [2]]
        told = rings(rows)
        told[0].clear()
        told.clear()
        self.assertEqual(rows, [[1], [0], [2]])
        self.assertEqual(rings(rows), [[0, 1], [2]])

    def test_what_is_no_graph_is_refused(self):
        for at, thing in enumerate(NO_GRAPHS):
            with self.subTest(at=at):
                self.assert_refused(NoGraph, rings, thing)


class OuterCounts(Unchanging):
    def test_by_hand(self):
        rows = [[1, 1, 2], [2, 0], [2], []]
        counts = [1, 3, 3, 5]
        for order, due in (
            ([], []), ([0], [(0, 1)]), ([1], [(1, 3)]), ([2], [(2, 2)]), ([3], [(3, 5)]),
            ([0, 1], [(0, 0), (1, 1)]), ([1, 0], [(1, 1), (0, 0)]), ([2, 0], [(2, 1), (0, 1)]),
            ([3, 2, 1, 0], [(3, 5), (2, 0), (1, 1), (0, 0)]), ([1, 3, 2], [(1, 3), (3, 5), (2, 1)]),
        ):
            with self.subTest(order=order):
                self.assertEqual(self.told(outer_counts, rows, counts, order), due)

    def test_the_empty_graph(self):
        self.assertEqual(self.told(outer_counts, [], [], []), [])

    def test_counts_up_to_999(self):
        self.assertEqual(outer_counts([[0] * 8, []], [999, 999], [0, 1]), [(0, 991), (1, 999)])
        rows = [[0] * 8 for _ in range(40)]
        self.assertEqual(outer_counts(rows, [320] + [0] * 39, [0, 5]), [(0, 304), (5, 0)])

    def test_each_order_of_many_graphs(self):
        for at, rows in enumerate(many_graphs(100, 10, 3)):
            numbers = Numbers(at)
            counts = some_counts(rows, numbers)
            for _ in range(5):
                order = numbers.mixed(range(len(rows)))[:1 + numbers.below(len(rows))]
                due = [(node, counts[node] - slots_into([rows[one] for one in order], node)) for node in order]
                self.assertEqual(self.told(outer_counts, rows, counts, order), due, (rows, counts, order))

    def test_told_are_tuples_in_a_new_list(self):
        rows, counts, order = [[1], [0]], [1, 2], [1, 0]
        told = outer_counts(rows, counts, order)
        self.assertEqual([type(told), *map(type, told)], [list, tuple, tuple])
        told.clear()
        self.assertEqual((rows, counts, order), ([[1], [0]], [1, 2], [1, 0]))
        self.assertEqual(outer_counts(rows, counts, order), [(1, 1), (0, 0)])


class Line:
    """The sifting of 3.3 as it is told, with a word for where each node stands."""

    def __init__(self, rows, marks, order):
        self.rows = rows
        self.marks = marks
        self.stands = {node: ("line", at) for at, node in enumerate(order)}
        self.times = len(order)

    def those(self, word):
        return sorted((node for node in self.stands if self.stands[node][0] == word), key=lambda n: self.stands[n][1])

    def move(self, node, word):
        self.stands[node] = (word, self.times)
        self.times += 1

    def sift(self):
        while self.those("line"):
            node = self.those("line")[0]
            if self.marks[node] == 0:
                self.move(node, "aside")
            else:
                self.move(node, "kept")
                for other in self.rows[node][::-1]:
                    self.touch(other)
        return (self.those("kept"), self.those("aside"))

    def touch(self, node):
        if node in self.stands and self.marks[node] == 0:
            self.marks[node] = 1
            if self.stands[node][0] == "aside":
                self.move(node, "line")


class Sifted(Unchanging):
    def test_by_hand(self):
        for name, rows, counts, order, due in (
            ("nothing", [], [], [], ([], [])),
            ("no order", [[0]], [5], [], ([], [])),
            ("all lost, in order", [[], [], []], [0, 0, 0], [2, 0, 1], ([], [2, 0, 1])),
            ("all kept, in order", [[], [], []], [1, 2, 3], [2, 0, 1], ([2, 0, 1], [])),
            ("a ring is lost", [[1], [2], [0]], [1, 1, 1], [1, 0, 2], ([], [1, 0, 2])),
            ("its own slots do not hold it", [[0, 0]], [2], [0], ([], [0])),
            ("a ring is held, from its start", [[1], [2], [0]], [2, 1, 1], [0, 1, 2], ([0, 1, 2], [])),
            ("laid aside, then to the end", [[1], [2], [0]], [1, 1, 2], [0, 1, 2], ([2, 0, 1], [])),
            ("its place in the line is its own", [[2], [], []], [1, 1, 1], [0, 1, 2], ([0, 1, 2], [])),
            ("last slot first", [[], [], [0, 1]], [1, 1, 1], [0, 1, 2], ([2, 1, 0], [])),
            ("a slot twice", [[], [], [1, 0, 1]], [1, 2, 1], [0, 1, 2], ([2, 1, 0], [])),
            ("kept ahead of those at the end", [[], [0], []], [1, 1, 1], [0, 1, 2], ([1, 2, 0], [])),
            ("one lost between", [[], [], [0]], [1, 0, 1], [0, 1, 2], ([2, 0], [1])),
            ("what the lost hold is lost", [[1], [], []], [0, 1, 1], [1, 2, 0], ([2], [1, 0])),
            ("held from elsewhere", [[1], [2], []], [0, 1, 1], [2, 1], ([1, 2], [])),
            ("elsewhere is not told", [[1], [0]], [1, 1], [1], ([1], [])),
            ("what is elsewhere does not lead on", [[1], [2], [0]], [2, 1, 1], [0, 2], ([0, 2], [])),
        ):
            with self.subTest(name):
                self.assertEqual(self.told(sifted, rows, counts, order), due)

    def test_a_long_one_by_hand(self):
        # 0 and 1 are laid aside; 2 is kept, and marks 5, then 0, which goes to the end; 3 is laid
        # aside; 4 is kept, and marks 3, then 1, and both go to the end in this order; 5 is kept in
        # its place; 6 is laid aside; then come 0, 3 and 1.
        rows = [[2], [], [0, 5], [3], [1, 3, 0], [], [6, 6]]
        counts = [2, 1, 2, 2, 1, 1, 2]
        self.assertEqual(self.told(sifted, rows, counts, [0, 1, 2, 3, 4, 5, 6]), ([2, 4, 5, 0, 3, 1], [6]))
        self.assertEqual(self.told(sifted, rows, counts, [6, 5, 4, 3, 2, 1, 0]), ([4, 3, 2, 1, 0, 5], [6]))

    def assert_as_told(self, rows, counts, order):
        marks = dict(outer_counts(rows, counts, order))
        due = Line(rows, marks, order).sift()
        self.assertEqual(self.told(sifted, rows, counts, order), due, (rows, counts, order))

    def test_node_by_node_over_all_small_graphs(self):
        for rows in all_graphs(3, 2)[::7]:
            inner = [slots_into(rows, node) for node in range(3)]
            for more in ((0, 0, 0), (1, 0, 0), (0, 0, 1)):
                counts = [one + other for one, other in zip(inner, more)]
                for order in ([0, 1, 2], [2, 0, 1], [1, 2]):
                    self.assert_as_told(rows, counts, order)

    def test_node_by_node_over_many_graphs(self):
        for at, rows in enumerate(many_graphs(300, 10, 3)):
            numbers = Numbers(at + 1000)
            counts = some_counts(rows, numbers)
            order = numbers.mixed(range(len(rows)))
            self.assert_as_told(rows, counts, order)
            self.assert_as_told(rows, counts, order[:1 + numbers.below(len(order))])

    def test_the_greatest_graphs(self):
        ring = [[(node + 1) % 40] * 8 for node in range(40)]
        order = list(range(40))
        self.assertEqual(sifted(ring, [8] * 40, order), ([], order))
        self.assertEqual(sifted(ring, [8] * 39 + [9], order), ([39, *range(39)], []))
        self.assertEqual(sifted(ring, [999] * 40, order[::-1]), (order[::-1], []))

    def test_kept_is_what_is_reached_from_those_held_from_outside(self):
        for at, rows in enumerate(many_graphs(200, 10, 2)):
            numbers = Numbers(at + 2000)
            counts = some_counts(rows, numbers)
            order = numbers.mixed(range(len(rows)))[:1 + numbers.below(len(rows))]
            within = [[node for node in row if node in order] if at in order else [] for at, row in enumerate(rows)]
            starts = [node for node, many in outer_counts(rows, counts, order) if many > 0]
            kept, lost = sifted(rows, counts, order)
            self.assertEqual(sorted(kept), reached(within, starts), (rows, counts, order))
            self.assertEqual(sorted(kept + lost), sorted(order))

    def test_which_are_kept_does_not_hang_on_the_order(self):
        for at, rows in enumerate(many_graphs(25, 5, 2)):
            numbers = Numbers(at + 3000)
            counts = some_counts(rows, numbers)
            found = {}
            for order in ways_of(range(len(rows))):
                kept, lost = sifted(rows, counts, order)
                told = (sorted(kept), sorted(lost))
                self.assertEqual(found.setdefault(tuple(sorted(order)), told), told, (rows, counts, order))

    def test_told_is_a_tuple_of_two_new_lists(self):
        rows, counts, order = [[1], [0], []], [1, 1, 1], [2, 1, 0]
        told = sifted(rows, counts, order)
        self.assertEqual([type(told), *map(type, told)], [tuple, list, list])
        told[0].clear()
        told[1].clear()
        self.assertEqual((rows, counts, order), ([[1], [0], []], [1, 1, 1], [2, 1, 0]))
        self.assertEqual(sifted(rows, counts, order), ([2], [1, 0]))
        kept = sifted(rows, [2, 2, 2], order)[0]
        kept.clear()
        self.assertEqual(order, [2, 1, 0])


class SiftingRefusals(Refusing):
    ROWS = [[1, 1], [2], [0]]
    COUNTS = [1, 2, 1]
    ORDER = [2, 0, 1]

    def no_counts(self):
        lists = [
            [], [1], [1, 2], [1, 2, 1, 0], [1, 2, 1, 1, 1], [0, 2, 1], [1, 1, 1], [1, 0, 1], [1, 2, 0], [0, 0, 0],
            [1000, 2, 1], [1, 1000, 1], [1, 2, 1000], [1, 2, 10 ** 5000], [-1, 2, 1], [1, 2, -1], [1, 2, -10 ** 5000],
            [True, 2, 1], [1, 2, True], [1, 2, None], ["1", 2, 1], [1, [2], 1], [[1, 2, 1]], [(1, 2, 1)], [1, 2, (1,)],
            SIX_DEEP, [SIX_DEEP, 2, 1], (1, 2, 1), "121",
        ]
        return lists + list(NO_LISTS) + list(NO_WHOLE_NUMBERS)

    def assert_both_refuse(self, *things):
        for function in (outer_counts, sifted):
            self.assert_refused(NoGraph, function, *things)

    def test_the_graph(self):
        for at, thing in enumerate(NO_GRAPHS):
            with self.subTest(at=at):
                self.assert_both_refuse(thing, [], [])
                self.assert_both_refuse(thing, [0], [0])
                self.assert_both_refuse(thing, self.COUNTS, self.ORDER)
                self.assert_both_refuse(thing, thing, thing)

    def test_the_order(self):
        for at, thing in enumerate(NO_NODE_LISTS):
            with self.subTest(at=at):
                self.assert_both_refuse(self.ROWS, self.COUNTS, thing)
                self.assert_both_refuse(self.ROWS, None, thing)
                self.assert_both_refuse([[], [], []], [0, 0, 0], thing)

    def test_the_counts(self):
        for at, thing in enumerate(self.no_counts()):
            with self.subTest(at=at):
                self.assert_both_refuse(self.ROWS, thing, self.ORDER)
                # Counts are for each node, also for those that the order has not.
                self.assert_both_refuse(self.ROWS, thing, [])
                self.assert_both_refuse(self.ROWS, thing, [1])

    def test_truths_are_no_counts_of_nodes_that_nothing_leads_to(self):
        for thing in (False, True, None, -1, 1000):
            self.assert_both_refuse([[]], [thing], [0])

    def test_the_edges_of_counts_are_taken(self):
        for counts in ([1, 2, 1], [999, 2, 1], [1, 999, 999]):
            self.assertEqual(outer_counts(self.ROWS, counts, []), [])
            self.assertEqual(sifted(self.ROWS, counts, []), ([], []))
        self.assertEqual(sifted([[]], [0], [0]), ([], [0]))

    def test_the_empty_graph(self):
        for counts, order in (([0], []), ([], [0]), ([0], [0]), ((), []), ([], ()), (None, None)):
            self.assert_both_refuse([], counts, order)


if __name__ == "__main__":
    unittest.main()
