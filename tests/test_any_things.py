"""Any thing is taken where a refusal is told, and what is refused changes nothing (0.3)."""

import copy
import unittest

from helping import Numbers, drawn_world, outcome, seen_world
from pyheap import graphs, histories, memory, sizes, texts, watching
from pyheap.blocks import Blocks
from pyheap.errors import HeapError
from pyheap.world import World

PLAIN = (
    0, 1, 2, 3, 7, 8, -1, 16, 1072, 4096, 9999, 10000, 10 ** 30, True, False, None, "", "a", "b", "c", "A", "row",
    "leaf", "fixed", "weak", "great", "fail", "save", "clear", "forget", "collect", "make", "put", "freeze",
    "world 4096 16 50\n",
)


class Junk:
    """Whole numbers, truths, None, texts, and lists and tuples of such, up to six deep."""

    def __init__(self, start):
        self.numbers = Numbers(start)

    def thing(self, depth=6):
        if depth == 0 or self.numbers.below(5) < 3:
            return self.numbers.one_of(PLAIN)
        parts = [self.thing(depth - 1) for _ in range(self.numbers.below(4))]
        return parts if self.numbers.below(2) else tuple(parts)


class AnyThings(unittest.TestCase):
    def assert_taken(self, function, things, named):
        """It tells something, or refuses; other errors go through. What is handed in stays."""
        before = copy.deepcopy((things, named))
        told = outcome(function, *things, **named)
        self.assertEqual((things, named), before)
        return told

    def test_of_worlds(self):
        calls = (
            ("make", 2, ("holding", "stepping", "extra")), ("let", 2, ()), ("forget", 1, ()), ("put", 3, ()),
            ("take", 3, ()), ("weaken", 2, ("stepping",)), ("ask", 2, ()), ("collect", 1, ()), ("set_bounds", 3, ()),
            ("switch", 1, ()),
        )
        refused = 0
        for at in range(12):
            world, junk = drawn_world(71000 + at, 30), Junk(at)
            for word, many, names in calls * 20:
                things = [junk.thing() for _ in range(many)]
                named = {name: junk.thing() for name in names if junk.numbers.below(2)}
                before = seen_world(world)
                told, refusal = self.assert_taken(getattr(world, word), things, named)
                if refusal:
                    refused += 1
                    self.assertEqual(seen_world(world), before)
                else:
                    self.assertEqual(len(world.deeds()), len(before["deeds"]) + 1)
        self.assertGreater(refused, 1000)

    def test_of_what_is_to_be_seen(self):
        functions = [
            watching.form_of, watching.slots_of, watching.count_of, watching.place_of, watching.target_of,
            watching.watchers_of, watching.was_asked, watching.listed, watching.holders, watching.way_to,
            watching.unreached, memory.owner, memory.pool_mates,
        ]
        world, junk = drawn_world(73000, 50), Junk(100)
        before = seen_world(world)
        for function in functions * 150:
            thing = junk.thing()
            kept = copy.deepcopy(thing)
            outcome(function, world, thing)
            self.assertEqual(thing, kept)
        self.assertEqual(seen_world(world), before)

    def test_of_the_rest(self):
        junk = Junk(200)
        calls = (
            (sizes.kind_of, 1), (sizes.room_of, 1), (sizes.blocks_in, 2), (graphs.is_graph, 1), (graphs.reached, 2),
            (graphs.rings, 1), (graphs.outer_counts, 3), (graphs.sifted, 3), (histories.replayed, 1),
            (texts.read_world, 1),
        )
        for function, many in calls * 150:
            self.assert_taken(function, [junk.thing() for _ in range(many)], {})
        for _ in range(150):
            named = {name: junk.thing() for name in ("pool_bytes", "pool_count", "nesting") if junk.numbers.below(2)}
            self.assert_taken(World, (), named)
            self.assert_taken(histories.replayed, [junk.thing()], named)
            blocks = Blocks()
            for word, many in (("take", 1), ("give", 1), ("size_at", 1), ("used_pools", 1), ("pool_at", 2)):
                self.assert_taken(getattr(blocks, word), [junk.thing() for _ in range(many)], {})

    def test_all_that_is_refused_is_a_heap_error(self):
        for deed in (["let", "a", "x"], ["forget", "x"], ["collect", 3], ["switch", None]):
            with self.assertRaises(HeapError):
                getattr(World(), deed[0])(*deed[1:])


if __name__ == "__main__":
    unittest.main()
