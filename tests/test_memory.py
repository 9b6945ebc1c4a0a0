"""Memory: where the things of a world lie (8.1), beside blocks of the same numbers; 0.2 (a) and (b) for worlds."""

import unittest

from helping import (
    FAR_OFF, NO_WHOLE_NUMBERS, Drawing, Refusing, block_of, do, drawn_world, made_with, outcome, seen_world,
)
from pyheap.blocks import Blocks
from pyheap.errors import NoBlock, NoThing
from pyheap.memory import arenas_of, bytes_of, kinds_of, layout, owner, pool_mates
from pyheap.watching import alive, past
from pyheap.world import World

NO_PLACES = (
    *NO_WHOLE_NUMBERS, *FAR_OFF, 0, 1, "great", "0", (0, 0), (0, 0, 0, 0), [0, 0, 0], (0, 0, True), (False, 0, 0),
    (0, None, 0), (0, 0, "0"), (0, 0, -1), (-1, 0, 0), (0, -1, 0), (0, 0, 1000000001), (1000000001, 0, 0),
    (0, 10 ** 30, 0), (10 ** 5000, 0, 0), ("great",), ("great", True), ("great", None), ("great", -1),
    ("great", 1000000001), ("great", 10 ** 5000), ("great", "0"), ("great", 0, 0), ("Great", 0), ("small", 0),
    ["great", 0], (0, "great"), (("great",), 0), ((0, 0, 0),), ((0,), 0, 0), ("great", (0,)), ("great", [0]), ("", 0),
    (None, 0), ("great", "great"), ("great", 0, 0, 0), ("great", 0, 1),
)


class OneWorld(Refusing):
    def setUp(self):
        """Rows of 64 bytes at blocks 0 to 2 of pool 0 of arena 0, leaves in pool 1, and great ones."""
        self.world = World(pool_bytes=1072, pool_count=2)
        for name in "abc":
            self.world.make(name, "row", holding=(None,))
        self.world.make("d", "leaf")
        self.world.make("e", "leaf", extra=497)
        self.world.make("f", "leaf", extra=2000)
        self.world.make("g", "leaf")
        self.world.make("h", "leaf", extra=496)
        self.world.forget("a")
        self.world.forget("e")
        self.world.make("i", "leaf", extra=48)


class ByHand(OneWorld):
    def test_bytes(self):
        # 64, 64, 64 of kind 3, 16, 16 of kind 0, 512 of kind 31, in two arenas of two pools.
        self.assertEqual(bytes_of(self.world), (736, 736, 4288))
        self.world.make("j", "leaf", extra=1)
        self.assertEqual(bytes_of(self.world), (753, 768, 4288))
        self.assertEqual(bytes_of(World()), (0, 0, 0))

    def test_layout(self):
        # The block of a came back, and is the first that is drawn again.
        self.assertEqual(layout(self.world), [
            (0, 0, 0, 8), (0, 0, 1, 1), (0, 0, 2, 2), (0, 1, 0, 3), (0, 1, 1, 6), (1, 0, 0, 7),
        ])
        self.assertEqual(layout(World()), [])

    def test_owners(self):
        self.assertEqual(owner(self.world, (0, 0, 0)), 8)
        self.assertEqual(owner(self.world, (0, 1, 1)), 6)
        self.assertEqual(owner(self.world, (1, 0, 0)), 7)
        self.assertEqual(owner(self.world, ("great", 1)), 5)

    def test_places_where_nothing_lies(self):
        for place in (
            (0, 0, 3), (0, 1, 2), (1, 1, 0), (2, 0, 0), (0, 2, 0), (1000000000,) * 3, ("great", 0), ("great", 2),
            ("great", 1000000000), (0, 0, 1000000000), (0, 1000000000, 0), (1000000000, 0, 0),
        ):
            self.assertIsNone(owner(self.world, place))
            if sum(part for part in place if part != "great") > 0:
                self.assertIsNone(owner(World(), place))
        self.assertIsNone(owner(World(), (0, 0, 0)))

    def test_what_can_be_no_place(self):
        for at, place in enumerate(NO_PLACES):
            with self.subTest(at=at):
                refusal = self.assert_refused(NoBlock, owner, self.world, place)
                self.assertEqual(refusal.places, place)

    def test_pool_mates(self):
        self.assertEqual([pool_mates(self.world, number) for number in (8, 1, 2)], [[8, 1, 2]] * 3)
        self.assertEqual([pool_mates(self.world, number) for number in (3, 6)], [[3, 6]] * 2)
        self.assertEqual((pool_mates(self.world, 7), pool_mates(self.world, 5)), ([7], []))

    def test_pool_mates_of_no_thing(self):
        for at, number in enumerate((*FAR_OFF, *NO_WHOLE_NUMBERS, -1, 0, 4, 9)):
            with self.subTest(at=at):
                self.assert_refused(NoThing, pool_mates, self.world, number)

    def test_arenas(self):
        self.assertEqual(arenas_of(self.world), [(0, 0, False), (1, 1, True)])
        self.world.forget("h")
        # It is the last one of the row, so it stays.
        self.assertEqual(arenas_of(self.world), [(0, 0, False), (1, 2, True)])
        self.world.forget("d")
        self.world.forget("g")
        self.assertEqual(arenas_of(self.world), [(0, 1, True), (1, 2, True)])
        self.assertEqual(arenas_of(World()), [])
        for arena, many, are_there in arenas_of(self.world):
            self.assertIs(type(are_there), bool)

    def test_kinds(self):
        self.assertEqual(kinds_of(self.world), [(0, 2), (3, 3), (31, 1)])
        self.assertEqual(kinds_of(World()), [])
        world = World()
        world.make("a", "leaf", extra=497)
        self.assertEqual(kinds_of(world), [])

    def test_kinds_of_each_form(self):
        world = World()
        world.make("l", "leaf")
        world.make("r", "row", holding=("l", None))
        world.make("f", "fixed", holding=("l",))
        world.weaken("w", "r")
        # 16, 72, 48 and 72 bytes.
        self.assertEqual(kinds_of(world), [(0, 1), (2, 1), (4, 2)])
        self.assertEqual(bytes_of(world), (208, 16 + 80 + 48 + 80, 16 * 4096))

    def test_told_lists_are_new_ones_and_nothing_changes(self):
        before = seen_world(self.world)
        for function in (layout, arenas_of, kinds_of):
            told = function(self.world)
            function(self.world).clear()
            self.assertEqual(function(self.world), told)
        pool_mates(self.world, 1).clear()
        self.assertEqual(pool_mates(self.world, 1), [8, 1, 2])
        self.assertEqual(seen_world(self.world), before)


class Mirror:
    """Blocks of a world's numbers, of which the same are taken and given back as in the world."""

    def __init__(self, named):
        self.blocks = Blocks(pool_bytes=named["pool_bytes"], pool_count=named["pool_count"])
        self.pool_count = named["pool_count"]
        self.places = {}
        self.sizes = {}

    def follow(self, deed, told, events):
        """A deed of a world in which no collections come by themselves: its thing comes before any is freed."""
        if deed[0] in ("make", "weaken"):
            if deed[0] == "weaken":
                size = 72
            else:
                word, name, form, holding, stepping, extra = deed
                size = {"leaf": 16, "row": 56, "fixed": 40}[form] + 8 * len(holding) + extra
            self.places[told] = self.blocks.take(size)
            self.sizes[told] = size
        for word, number in events:
            if word == "free":
                self.blocks.give(self.places.pop(number))
                del self.sizes[number]

    def layout(self):
        return sorted((*place, number) for number, place in self.places.items() if place[0] != "great")

    def kinds(self):
        kinds = [(max(size, 1) - 1) // 16 for size in self.sizes.values() if size <= 512]
        return sorted((kind, kinds.count(kind)) for kind in set(kinds))

    def arenas(self):
        told = []
        for arena in self.blocks.all_arenas():
            empty = [pool for pool in range(self.pool_count) if self.blocks.pool_at(arena, pool) is None]
            told.append((arena, len(empty), bool(empty)))
        return told


class OverDrawnWorlds(unittest.TestCase):
    def test_beside_blocks_in_which_the_same_happens(self):
        greats, arenas = 0, 0
        for at in range(50):
            named = made_with(at)
            world, mirror, drawing = World(**named), Mirror(named), Drawing(31000 + at)
            world.switch(False)
            for step in range(90):
                deed = drawing.deed(world)
                if deed[0] == "switch":
                    continue
                many = len(past(world))
                told, refusal = outcome(do, world, deed)
                if refusal:
                    continue
                mirror.follow(deed, told, past(world)[many:])
                with self.subTest(at=at, step=step, deed=deed):
                    self.assertEqual(bytes_of(world), mirror.blocks.bytes_out())
                    self.assertEqual(layout(world), mirror.layout())
                    self.assertEqual(kinds_of(world), mirror.kinds())
                    self.assertEqual(arenas_of(world), mirror.arenas())
                    self.assert_owners(world, mirror)
                greats += sum(place[0] == "great" for place in mirror.places.values())
                arenas = max(arenas, len(mirror.blocks.all_arenas()))
        self.assertGreater(greats, 100)
        self.assertGreater(arenas, 2)

    def assert_owners(self, world, mirror):
        for number, place in mirror.places.items():
            self.assertEqual(owner(world, place), number)
            mates = [mate for arena, pool, block, mate in mirror.layout() if (arena, pool) == place[:2]]
            self.assertEqual(pool_mates(world, number), mates if len(place) == 3 else [])
        self.assertEqual(sorted(mirror.places), alive(world))

    def test_no_two_blocks_share_a_byte(self):
        for at in range(60):
            world = drawn_world(33000 + at, 90)
            pool_bytes = made_with(33000 + at)["pool_bytes"]
            spans, kinds = [], {}
            for arena, pool, block, number in layout(world):
                size = world.heap.blocks.size_at(block_of(world, number))
                room = 16 * ((max(size, 1) + 15) // 16)
                self.assertEqual(kinds.setdefault((arena, pool), room), room)
                start = 48 + block * room
                self.assertLessEqual(start + room, pool_bytes)
                spans.append({(arena, pool, byte) for byte in range(start, start + room)})
            self.assertEqual(len(set().union(*spans)), sum(map(len, spans)))
            self.assertEqual(bytes_of(world)[1], sum(map(len, spans)))


if __name__ == "__main__":
    unittest.main()
