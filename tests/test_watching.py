"""What is to be seen of a world: things and lists (7.1), the past (7.2), ways, rings and garbage (7.3)."""

import unittest
from itertools import chain

from helping import FAR_OFF, NO_WHOLE_NUMBERS, Refusing, drawn_world, seen_world
from pyheap.errors import NoNumber, NoThing, NotWeak
from pyheap.watching import (
    alive, called, count_of, counters, form_of, garbage, holders, listed, past, place_of, reachable, rings_in, slots_of,
    target_of, tours, unreached, was_asked, watchers_of, way_to,
)
from pyheap.world import World

OF_A_THING = (form_of, slots_of, count_of, place_of, target_of, watchers_of, was_asked, holders, way_to)
OF_A_WORLD = (called, alive, counters, tours, past, reachable, garbage, rings_in)


def full_world():
    """A world with all forms, frozen and risen things, lost rings, and weak things without a target.

    0 leaf l; 1 row r of 0, itself and 0; 2 fixed f of nothing and 1; 3 weak w of 1; 4 leaf, freed; 5 weak v, which had
    4 as its target; 6 row, lost, in itself; all these frozen. 7 row n, risen; 8 fixed p of 0, tracked no more; 9 weak u
    of 1; 10 row m.
    """
    world = World(pool_bytes=1072, pool_count=2, nesting=3)
    world.make("l", "leaf", stepping=(("save", "l"),))
    world.make("r", "row", holding=("l", None, "l"))
    world.put("r", 1, "r")
    world.make("f", "fixed", holding=(None, "r"))
    world.weaken("w", "r")
    world.make("g", "leaf")
    world.weaken("v", "g", stepping=(("fail",),))
    world.forget("g")
    world.make("k", "row", holding=(None,))
    world.put("k", 0, "k")
    world.forget("k")
    world.freeze()
    world.make("n", "row", stepping=(("save", "n"),))
    world.make("p", "fixed", holding=("l",))
    world.weaken("u", "r")
    world.collect(0)
    world.make("m", "row")
    world.forget("n")
    return world


class OneWorld(Refusing):
    def setUp(self):
        self.world = full_world()

    def each(self, function):
        return {number: function(self.world, number) for number in alive(self.world)}


class ThingsAndLists(OneWorld):
    def test_names_and_things(self):
        self.assertEqual(called(self.world), [
            ("f", 2), ("l", 0), ("m", 10), ("n", 7), ("p", 8), ("r", 1), ("u", 9), ("v", 5), ("w", 3),
        ])
        self.assertEqual(alive(self.world), [0, 1, 2, 3, 5, 6, 7, 8, 9, 10])
        self.assertEqual(len(self.world), 10)

    def test_forms(self):
        self.assertEqual(self.each(form_of), {
            0: "leaf", 1: "row", 2: "fixed", 3: "weak", 5: "weak", 6: "row", 7: "row", 8: "fixed", 9: "weak", 10: "row",
        })

    def test_slots(self):
        self.assertEqual(self.each(slots_of), {
            0: [], 1: [0, 1, 0], 2: [None, 1], 3: [], 5: [], 6: [6], 7: [], 8: [0], 9: [], 10: [],
        })

    def test_counts(self):
        self.assertEqual(self.each(count_of), {0: 4, 1: 3, 2: 1, 3: 1, 5: 1, 6: 1, 7: 1, 8: 1, 9: 1, 10: 1})

    def test_places(self):
        self.assertEqual(self.each(place_of), {
            0: None, 1: 3, 2: 3, 3: 3, 5: 3, 6: 3, 7: 0, 8: None, 9: 1, 10: 0,
        })
        self.assertEqual([listed(self.world, place) for place in range(4)], [[10, 7], [9], [], [1, 2, 3, 5, 6]])

    def test_targets_and_watchers(self):
        self.assertEqual([target_of(self.world, number) for number in (3, 5, 9)], [1, None, 1])
        watchers = self.each(watchers_of)
        self.assertEqual(watchers.pop(1), [9, 3])
        self.assertEqual(set(map(tuple, watchers.values())), {()})

    def test_was_asked(self):
        self.assertEqual([number for number, told in self.each(was_asked).items() if told], [7])
        self.assertIs(was_asked(self.world, 7), True)
        self.assertIs(was_asked(self.world, 0), False)

    def test_counters_and_tours(self):
        self.assertEqual(counters(self.world), (1, 1, 0))
        self.assertEqual(tours(self.world), [(1, 0), (0, 0), (0, 0)])
        self.world.collect(1)
        self.world.thaw()
        self.assertEqual(self.world.collect(), 1)
        self.assertEqual((counters(self.world), tours(self.world)), ((0, 0, 0), [(1, 0), (1, 0), (1, 1)]))
        self.assertEqual((counters(World()), tours(World())), ((0, 0, 0), [(0, 0)] * 3))
        for told in tours(self.world):
            self.assertIsInstance(told, tuple)

    def test_no_things(self):
        for function in OF_A_THING:
            for at, number in enumerate((*FAR_OFF, *NO_WHOLE_NUMBERS, -1, 4, 11, 12, "a", "r", ("r",))):
                with self.subTest(function=function.__name__, at=at):
                    self.assert_refused(NoThing, function, self.world, number)

    def test_truths_are_no_numbers_of_things(self):
        self.assertEqual((form_of(self.world, 0), form_of(self.world, 1)), ("leaf", "row"))
        for function in OF_A_THING:
            for truth in (True, False):
                self.assert_refused(NoThing, function, self.world, truth)

    def test_not_weak(self):
        for number in (0, 1, 2, 6, 7, 8, 10):
            self.assert_refused(NotWeak, target_of, self.world, number)

    def test_no_lists(self):
        for at, place in enumerate((*FAR_OFF, *NO_WHOLE_NUMBERS, -1, 4)):
            with self.subTest(at=at):
                self.assert_refused(NoNumber, listed, self.world, place)

    def test_told_lists_are_new_ones_and_nothing_changes(self):
        before = seen_world(self.world)
        for function in OF_A_WORLD:
            told = function(self.world)
            if isinstance(told, list):
                told.append("more")
                told.reverse()
            for part in told:
                if isinstance(part, list):
                    part.append("more")
            self.assertNotIn("more", chain(function(self.world), *rings_in(self.world)))
        for number in (0, 1, 3, 9):
            for function in OF_A_THING:
                if function != target_of or number in (3, 9):
                    told = function(self.world, number)
                    parts = [told, *told] if isinstance(told, (list, tuple)) else []
                    for part in parts:
                        if isinstance(part, list):
                            part.clear()
        for function in (listed, unreached):
            for place in (0, 1, 2):
                function(self.world, place).clear()
        listed(self.world, 3).clear()
        self.assertEqual(seen_world(self.world), before)
        self.assertEqual((holders(self.world, 0), way_to(self.world, 0)), ((["l"], [(1, 2), (8, 1)]), ["l", 0]))

    def test_a_new_world(self):
        for function in (called, alive, past, reachable, garbage, rings_in):
            self.assertEqual(function(World()), [])
        self.assertEqual([listed(World(), place) for place in range(4)], [[]] * 4)
        self.assertEqual(unreached(World()), [])


class Past(OneWorld):
    def test_of_the_full_world(self):
        self.assertEqual(past(self.world), [("call", 5), ("failed", 5), ("free", 4), ("last", 7)])

    def test_event_by_event(self):
        world = World(nesting=2)
        world.make("l", "leaf", stepping=(("save", "l"), ("fail",), ("forget", "l")))
        world.make("a", "row", holding=(None, "l"), stepping=(("forget", "x"),))
        world.make("b", "fixed", holding=("a",), stepping=(("collect",), ("fail",)))
        world.put("a", 0, "b")
        world.weaken("v", "b", stepping=(("forget", "v"),))
        world.weaken("w", "a", stepping=(("fail",),))
        world.make("x", "leaf", stepping=(("fail",), ("save", "x")))
        for name in "lab":
            world.forget(name)
        self.assertEqual(past(world), [])
        self.assertEqual(world.collect(), 2)
        self.assertEqual(past(world), [
            # Weak things: those of 1, then of 2; the first one forgets itself when it is called.
            ("call", 4), ("failed", 4), ("call", 3), ("free", 3),
            # What is lost is asked: 1 forgets x, which is asked, and freed; 2 can do no collection.
            ("last", 1), ("last", 5), ("failed", 5), ("free", 5), ("last", 2), ("failed", 2),
            # 1 is emptied from its last slot: the leaf rises; 2 lets 1 go, which is held, and is freed; then 1.
            ("last", 0), ("failed", 0), ("free", 2), ("free", 1),
        ])

    def test_kinds_of_events(self):
        words = {}
        for at in range(40):
            for event in past(drawn_world(21000 + at, 60)):
                self.assertIsInstance(event, tuple)
                word, number = event
                self.assertIs(type(number), int)
                words[word] = True
        self.assertEqual(sorted(words), ["call", "failed", "free", "last"])


class Ways(OneWorld):
    def test_reachable_and_garbage(self):
        self.assertEqual(reachable(self.world), [0, 1, 2, 3, 5, 7, 8, 9, 10])
        self.assertEqual(garbage(self.world), [6])

    def test_targets_are_not_led_to(self):
        self.world.make("k", "row", holding=(None,))
        self.world.put("k", 0, "k")
        self.world.weaken("i", "k")
        self.world.forget("k")
        self.assertEqual(garbage(self.world), [6, 11])

    def test_holders(self):
        self.world.let("a", "r")
        self.assertEqual(holders(self.world, 1), (["a", "r"], [(1, 1), (2, 1)]))
        self.assertEqual(holders(self.world, 0), (["l"], [(1, 2), (8, 1)]))
        self.assertEqual(holders(self.world, 6), ([], [(6, 1)]))
        self.assertEqual(holders(self.world, 10), (["m"], []))
        self.assertIsInstance(holders(self.world, 10), tuple)

    def test_ways(self):
        self.assertEqual(way_to(self.world, 1), ["r", 1])
        self.assertEqual(way_to(self.world, 6), None)
        self.world.forget("r")
        self.assertEqual(way_to(self.world, 1), ["f", 2, 1])
        self.world.forget("l")
        self.assertEqual(way_to(self.world, 0), ["p", 8, 0])
        self.world.forget("p")
        self.assertEqual(way_to(self.world, 0), ["f", 2, 1, 0])

    def test_of_several_ways_the_shortest(self):
        world = World()
        world.make("a", "leaf")
        world.make("b", "row", holding=("a",))
        world.make("c", "row", holding=("b",))
        world.make("z", "row", holding=("c", "a"))
        for name in "ab":
            world.forget(name)
        self.assertEqual(way_to(world, 0), ["z", 3, 0])
        world.put("z", 1, None)
        self.assertEqual(way_to(world, 0), ["c", 2, 1, 0])

    def test_of_several_shortest_ways_the_least_by_the_name_then_by_the_numbers(self):
        world = World()
        world.make("t", "leaf")
        for name in "pqrs":
            world.make(name, "row", holding=("t", "t"))
        world.make("d", "row", holding=("s", "p", "q"))
        world.make("cc", "row", holding=("r", "q", "s"))
        world.make("c", "row", holding=("s", "r", "r"))
        for name in "tpqrs":
            world.forget(name)
        # The numbers of the others are less, but c is the least name; of what it holds 3 is less than 4.
        self.assertEqual(way_to(world, 0), ["c", 7, 3, 0])
        world.forget("c")
        self.assertEqual(way_to(world, 0), ["cc", 6, 2, 0])
        world.forget("cc")
        self.assertEqual(way_to(world, 0), ["d", 5, 1, 0])
        world.let("b", "d")
        self.assertEqual(way_to(world, 0), ["b", 5, 1, 0])

    def test_a_way_by_numbers_not_by_texts(self):
        world = World()
        world.make("t", "leaf")
        for _ in range(9):
            world.make("x", "leaf")
        world.make("j", "row", holding=("t",))
        for _ in range(9):
            world.make("x", "leaf")
        world.make("k", "row", holding=("t",))
        world.make("a", "row", holding=("k", "j"))
        for name in "tjk":
            world.forget(name)
        self.assertEqual(way_to(world, 0), ["a", 21, 10, 0])
        world.make("h", "row", holding=("a",))
        world.forget("a")
        self.assertEqual(way_to(world, 0), ["h", 22, 21, 10, 0])

    def test_a_long_way(self):
        world = World()
        world.make("a", "row")
        for _ in range(1500):
            world.make("a", "row", holding=("a",))
        self.assertEqual(way_to(world, 0), ["a", *range(1500, -1, -1)])
        self.assertEqual(rings_in(world), [])
        self.assertEqual(len(reachable(world)), 1501)

    def test_rings(self):
        self.assertEqual(rings_in(self.world), [[1], [6]])
        self.world.make("j", "row", holding=(None,))
        self.world.make("i", "fixed", holding=("j", "r"))
        self.world.put("j", 0, "i")
        self.assertEqual(rings_in(self.world), [[1], [6], [11, 12]])
        self.world.put("r", 2, "j")
        self.assertEqual(rings_in(self.world), [[1, 11, 12], [6]])

    def test_a_long_ring(self):
        world = World()
        world.switch(False)
        world.make("z", "row", holding=(None,))
        world.let("a", "z")
        for _ in range(1500):
            world.make("a", "row", holding=("a",))
        world.put("z", 0, "a")
        self.assertEqual(rings_in(world), [list(range(1501))])
        world.forget("a")
        world.forget("z")
        self.assertEqual((unreached(world, 0), world.collect(0)), (list(range(1501)), 1501))

    def test_unreached(self):
        self.assertEqual([unreached(self.world, upto) for upto in (0, 1, 2)], [[], [], []])
        self.world.thaw()
        self.assertEqual([unreached(self.world, upto) for upto in (0, 1, 2)], [[], [], [6]])
        self.assertEqual((unreached(self.world), unreached(self.world, upto=1)), ([6], []))

    def test_unreached_hangs_on_things_elsewhere(self):
        world = World()
        world.make("a", "row", holding=(None, None))
        world.put("a", 0, "a")
        world.collect(0)
        world.make("b", "row", holding=(None,))
        world.put("b", 0, "b")
        world.put("a", 1, "b")
        world.forget("a")
        world.forget("b")
        # The older one is lost itself, but is elsewhere for a collection of list 0.
        self.assertEqual([unreached(world, upto) for upto in (0, 1, 2)], [[], [0, 1], [0, 1]])

    def test_no_lists_of_unreached(self):
        for at, upto in enumerate((*FAR_OFF, *NO_WHOLE_NUMBERS, -1, 3)):
            with self.subTest(at=at):
                self.assert_refused(NoNumber, unreached, self.world, upto)


def held(world, number):
    return [other for other in slots_of(world, number) if other is not None]


def all_led_to(world, starts):
    found = set(starts)
    while True:
        more = found | {other for number in found for other in held(world, number)}
        if more == found:
            return found
        found = more


def shortest_ways(world, number):
    """All shortest ways to a thing, by making all ways longer step by step."""
    ways = [[name, start] for name, start in called(world)]
    for _ in range(len(world) + 1):
        ends = [way for way in ways if way[-1] == number]
        if ends:
            return ends
        ways = [[*way, other] for way in ways for other in sorted(set(held(world, way[-1]))) if other not in way]
    return []


class OverDrawnWorlds(unittest.TestCase):
    def worlds(self):
        for at in range(60):
            yield drawn_world(23000 + at, 40 + at % 30, steps=at % 2 == 0)

    def test_reachable_and_garbage(self):
        many = 0
        for world in self.worlds():
            found = all_led_to(world, {number for name, number in called(world)})
            self.assertEqual(reachable(world), sorted(found))
            self.assertEqual(garbage(world), sorted(set(alive(world)) - found))
            many += len(garbage(world))
        self.assertGreater(many, 20)

    def test_holders(self):
        for world in self.worlds():
            for number in alive(world):
                names, pairs = holders(world, number)
                self.assertEqual(names, sorted(name for name, other in called(world) if other == number))
                counted = [(other, held(world, other).count(number)) for other in alive(world)]
                self.assertEqual(pairs, sorted(pair for pair in counted if pair[1]))
                self.assertEqual(len(names) + sum(many for other, many in pairs), count_of(world, number))

    def test_ways(self):
        lengths = {}
        for world in self.worlds():
            for number in alive(world):
                way = way_to(world, number)
                ways = shortest_ways(world, number)
                self.assertEqual(way, min(ways) if ways else None)
                lengths[0 if way is None else len(way)] = True
        self.assertLessEqual({0, 2, 3, 4}, set(lengths))

    def test_rings(self):
        for world in self.worlds():
            ahead = {number: all_led_to(world, held(world, number)) for number in alive(world)}
            groups = {
                tuple(other for other in alive(world) if other in ahead[number] and number in ahead[other])
                for number in alive(world)
            }
            self.assertEqual(rings_in(world), sorted(map(list, groups - {()})))

    def test_unreached(self):
        for world in self.worlds():
            for upto in (0, 1, 2):
                looked = {number for number in alive(world) if place_of(world, number) in range(upto + 1)}
                starts = {number for name, number in called(world)} | (set(alive(world)) - looked)
                self.assertEqual(unreached(world, upto), sorted(looked - all_led_to(world, starts)))

    def test_a_collection_finds_what_is_unreached(self):
        found = 0
        for world in self.worlds():
            if not any(deed[0] == "make" and deed[4] for deed in world.deeds()):
                for upto in (0, 1, 2):
                    lost = unreached(world, upto)
                    self.assertEqual(world.collect(upto), len(lost))
                    self.assertEqual(set(lost) & set(alive(world)), set())
                    found += len(lost)
        self.assertGreater(found, 10)


if __name__ == "__main__":
    unittest.main()
