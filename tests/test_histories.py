"""Deeds: worlds played again (9.1), twins, undoing and parting (9.2)."""

import copy
import unittest

from helping import (
    FAR_OFF, NO_LISTS, NO_WHOLE_NUMBERS, Drawing, Refusing, do, drawn_world, made_with, outcome, seen_world,
)
from pyheap.errors import NoDeeds, NoNumber, NoSize
from pyheap.histories import parting, replayed, twin, undone, unlike
from pyheap.watching import alive, past, slots_of
from pyheap.world import World

ALL_DEEDS = [
    ("make", "a", "leaf", (), (), 7),
    ("make", "b", "row", ("a", None), (("save", "b"), ("clear", 1), ("forget", "a")), 0),
    ("make", "f", "fixed", (None, "b"), (("fail",), ("collect",)), 0),
    ("let", "c", "a"),
    ("put", "b", 1, "b"),
    ("put", "b", 0, None),
    ("take", "d", "b", 1),
    ("weaken", "w", "a", (("forget", "c"), ("fail",), ("collect",))),
    ("ask", "e", "w"),
    ("forget", "e"),
    ("collect", 1),
    ("bounds", 1, 2, 3),
    ("switch", False),
    ("freeze",),
    ("thaw",),
]
START = [("make", "a", "leaf", (), (), 0), ("make", "r", "row", ("a", None), (), 0), ("weaken", "w", "r", ())]
NO_DEEDS = (
    None, True, 0, "", "freeze", (), [], ["freeze"], ("Freeze",), ("", ), (None,), (0,), (True,), (("freeze",),),
    (["freeze"],), ("freeze", None), ("thaw", 0), ("thaw", ()), ("undo",), ("set_bounds", 1, 2, 3), ("deeds",),
    ("make", "b", "leaf"), ("make", "b", "leaf", (), ()), ("make", "b", "leaf", (), (), 0, 0), ("make",),
    ["make", "b", "leaf", (), (), 0], ("make", "B", "leaf", (), (), 0), ("make", "b", "weak", (), (), 0),
    ("make", "b", "row", [], (), 0), ("make", "b", "row", ["a"], (), 0), ("make", "b", "row", ("x",), (), 0),
    ("make", "b", "row", "a", (), 0), ("make", "b", "row", (), [], 0), ("make", "b", "row", (), ("fail",), 0),
    ("make", "b", "row", (), (["fail"],), 0), ("make", "b", "row", (), (), 1), ("make", "b", "leaf", (), (), True),
    ("make", "b", "leaf", (), (), 2001), ("make", "b", "leaf", (), (), None), ("make", ["b"], "leaf", (), (), 0),
    ("let", "b"), ("let", "b", "a", "a"), ("let", "b", "x"), ("let", "", "a"), ("let", None, "a"), ("let", "b", ["a"]),
    ("forget",), ("forget", "x"), ("forget", "a", "a"), ("forget", 0), ("forget", ("a",)),
    ("put", "r", 0), ("put", "r", 2, "a"), ("put", "a", 0, "a"), ("put", "r", True, "a"), ("put", "r", 0, "x"),
    ("put", "x", 0, "a"), ("put", "r", 0, "a", 0), ("put", "r", "a", 0), ("take", "b", "r", 1), ("take", "b", "r", 2),
    ("take", "b", "r", False), ("take", "b", "r"), ("take", "b", 0, "r"), ("take", "b", "a", 0),
    ("weaken", "b", "w", ()), ("weaken", "b", "a"), ("weaken", "b", "a", None), ("weaken", "b", "a", (("save", "b"),)),
    ("weaken", "b", "a", [("fail",)]), ("ask", "b", "a"), ("ask", "b", "w", ()), ("ask", "b"), ("ask", "b", "x"),
    ("collect",), ("collect", 3), ("collect", -1), ("collect", True), ("collect", None), ("collect", 0, 0),
    ("bounds", 1, 2), ("bounds", 1, 2, 1000), ("bounds", 1, 2, 3, 4), ("bounds", True, 2, 3), ("bounds", (1, 2, 3)),
    ("switch",), ("switch", 1), ("switch", 0), ("switch", None), ("switch", "on"), ("switch", True, True),
    {}, {"freeze": ()},
)


class Replayed(Refusing):
    def test_each_deed(self):
        world = replayed(ALL_DEEDS)
        self.assertEqual(world.deeds(), ALL_DEEDS)
        other = World()
        for deed in ALL_DEEDS:
            do(other, deed)
        self.assertEqual(seen_world(world), seen_world(other))
        self.assertEqual(world, other)

    def test_no_deed(self):
        self.assertEqual(replayed([]), World())

    def test_its_numbers(self):
        named = {"pool_bytes": 1072, "pool_count": 3, "nesting": 2}
        self.assertEqual(replayed(ALL_DEEDS, **named).deeds(), ALL_DEEDS)
        self.assertEqual(replayed([], **named), World(**named))
        with self.assertRaises(TypeError):
            replayed([], 4096)

    def test_the_list_stays_as_it_was_and_is_not_kept(self):
        deeds = list(ALL_DEEDS)
        world = replayed(deeds)
        self.assertEqual(deeds, ALL_DEEDS)
        deeds.clear()
        self.assertEqual(world.deeds(), ALL_DEEDS)
        world.freeze()
        self.assertEqual(deeds, [])

    def test_numbers_that_are_none(self):
        for at, thing in enumerate((*FAR_OFF, *NO_WHOLE_NUMBERS, 0, 1, 1071, 5000)):
            with self.subTest(at=at):
                self.assert_refused(NoSize, replayed, [], pool_bytes=thing)
                self.assert_refused(NoNumber, replayed, [], pool_count=thing if thing != 1 else 0)
                self.assert_refused(NoNumber, replayed, [], nesting=thing)

    def test_numbers_are_refused_before_deeds(self):
        for deeds in (None, [None], [("forget", "x")]):
            self.assert_refused(NoSize, replayed, deeds, pool_bytes=0, pool_count=0, nesting=0)
            self.assert_refused(NoNumber, replayed, deeds, pool_count=0, nesting=0)
            self.assert_refused(NoNumber, replayed, deeds, nesting=1)
            self.assert_refused(NoDeeds, replayed, deeds)

    def test_what_is_no_list(self):
        for at, thing in enumerate((*NO_LISTS, tuple(ALL_DEEDS), ALL_DEEDS[0], "freeze", {})):
            with self.subTest(at=at):
                self.assert_refused(NoDeeds, replayed, thing)

    def test_what_is_no_deed(self):
        replayed(START)
        for at, deed in enumerate(NO_DEEDS):
            with self.subTest(at=at):
                self.assert_refused(NoDeeds, replayed, [*START, deed])
                self.assert_refused(NoDeeds, replayed, [*START, ("freeze",), deed, ("thaw",)])
                self.assert_refused(NoDeeds, replayed, [deed])

    def test_a_deed_that_is_refused_where_it_stands(self):
        for at in range(1, len(START)):
            self.assert_refused(NoDeeds, replayed, START[at:])
        self.assert_refused(NoDeeds, replayed, [*START, ("forget", "a"), ("let", "b", "a")])
        self.assert_refused(NoDeeds, replayed, [*START, ("forget", "r"), ("ask", "b", "w")])

    def test_drawn_worlds(self):
        for at in range(80):
            world = drawn_world(41000 + at, 90)
            deeds = world.deeds()
            before = copy.deepcopy(deeds)
            other = replayed(deeds, **made_with(41000 + at))
            self.assertEqual(seen_world(other), seen_world(world))
            self.assertEqual(other, world)
            self.assertEqual(deeds, before)

    def test_what_is_refused_is_no_deed(self):
        for at in range(20):
            world, drawing = World(), Drawing(43000 + at)
            done = []
            for _ in range(60):
                deed = drawing.deed(world)
                told, refusal = outcome(do, world, deed)
                if refusal:
                    self.assert_refused(NoDeeds, replayed, [*done, deed])
                else:
                    done.append(deed)
            self.assertEqual(world.deeds(), done)


class Twins(Refusing):
    def test_a_twin_is_alike(self):
        for at in range(30):
            world = drawn_world(45000 + at, 70)
            before = seen_world(world)
            other = twin(world)
            self.assertEqual(other, world)
            self.assertEqual((seen_world(other), seen_world(world)), (before, before))
            self.assertEqual((unlike(world, other), parting(world, other)), ([], None))

    def test_what_is_done_to_one_leaves_the_other(self):
        world = replayed(ALL_DEEDS, nesting=7)
        before = seen_world(world)
        other = twin(world)
        for name in "bdf":
            other.forget(name)
        other.collect()
        other.make("z", "row")
        self.assertEqual(seen_world(world), before)
        self.assertNotEqual(world, other)
        after = seen_world(other)
        do(world, ("forget", "a"))
        do(world, ("switch", True))
        self.assertEqual(seen_world(other), after)

    def test_undone(self):
        world = replayed(ALL_DEEDS, pool_bytes=1072, pool_count=1, nesting=2)
        before = seen_world(world)
        for many in range(len(ALL_DEEDS) - 1, -1, -1):
            other = undone(world) if many == len(ALL_DEEDS) - 1 else undone(other)
            self.assertEqual(other, replayed(ALL_DEEDS[:many], pool_bytes=1072, pool_count=1, nesting=2))
        self.assertEqual(seen_world(world), before)
        self.assert_refused(NoDeeds, undone, other)
        self.assertEqual(other, World(pool_bytes=1072, pool_count=1, nesting=2))

    def test_a_new_world_cannot_be_undone(self):
        self.assert_refused(NoDeeds, undone, World())
        world = World()
        with self.assertRaises(ValueError):
            world.forget("a")
        self.assert_refused(NoDeeds, undone, world)

    def test_over_drawn_worlds(self):
        for at in range(20):
            world = drawn_world(47000 + at, 50)
            before = seen_world(world)
            other = undone(world)
            self.assertEqual(other.deeds(), world.deeds()[:-1])
            do(other, world.deeds()[-1])
            self.assertEqual((seen_world(other), seen_world(world)), (before, before))


class Unlike(unittest.TestCase):
    def test_things_that_not_both_have(self):
        one, other = replayed(START), replayed(START)
        one.make("x", "leaf")
        other.forget("w")
        self.assertEqual(unlike(one, other), [2, 3])
        self.assertEqual(unlike(other, one), [2, 3])
        self.assertEqual(unlike(World(), one), [0, 1, 2, 3])
        self.assertEqual(unlike(World(), World()), [])

    def test_things_that_hold_not_the_same(self):
        one, other = replayed(START), replayed(START)
        one.put("r", 1, "a")
        self.assertEqual(unlike(one, other), [1])
        other.put("r", 1, "a")
        self.assertEqual(unlike(one, other), [])
        other.put("r", 0, None)
        self.assertEqual(unlike(one, other), [1])

    def test_what_else_they_have_does_not_count(self):
        one, other = World(), World(nesting=3)
        one.make("a", "row")
        one.make("b", "leaf")
        other.make("c", "leaf", extra=9, stepping=(("fail",),))
        other.make("d", "fixed")
        other.let("e", "d")
        self.assertEqual(unlike(one, other), [])

    def test_over_drawn_worlds(self):
        many = 0
        for at in range(40):
            one = drawn_world(49000 + at, 50)
            other = undone(undone(one))
            do(other, ("make", "a", "row", (None,), (), 0))
            both = set(alive(one)) & set(alive(other))
            expected = {number for number in both if slots_of(one, number) != slots_of(other, number)}
            expected |= set(alive(one)) ^ set(alive(other))
            self.assertEqual(unlike(one, other), sorted(expected))
            many += len(expected)
        self.assertGreater(many, 40)


class Parting(unittest.TestCase):
    def test_the_same_pasts(self):
        self.assertIsNone(parting(World(), World()))
        one, other = replayed(START), replayed(START, nesting=2)
        one.put("r", 0, None)
        self.assertIsNone(parting(one, other))
        for world in (one, other):
            world.forget("w")
        self.assertIsNone(parting(one, other))

    def test_one_that_only_one_has(self):
        one, other = replayed(START), replayed(START)
        one.forget("w")
        self.assertEqual((parting(one, other), parting(other, one)), (0, 0))
        other.forget("w")
        one.forget("r")
        self.assertEqual((parting(one, other), parting(other, one)), (1, 1))

    def test_another_event(self):
        one, other = replayed(START), replayed(START)
        for world, names in ((one, "wra"), (other, "war")):
            for name in names:
                world.forget(name)
        self.assertEqual(past(one), [("free", 2), ("free", 1), ("free", 0)])
        self.assertEqual(past(other), [("free", 2), ("free", 0), ("free", 1)])
        self.assertEqual((parting(one, other), parting(other, one)), (1, 1))

    def test_another_word_of_the_same_thing(self):
        one, other = World(), World()
        one.make("a", "leaf", stepping=(("fail",),))
        other.make("a", "leaf", stepping=(("forget", "x"),))
        for world in (one, other):
            world.forget("a")
        self.assertEqual(parting(one, other), 1)

    def test_over_drawn_worlds(self):
        told = {}
        for at in range(40):
            one = drawn_world(51000 + at, 60)
            other = undone(one)
            outcome(do, other, ("forget", "a"))
            do(other, ("make", "a", "leaf", (), (), 0))
            events, others = past(one), past(other)
            longest = max(len(events), len(others))
            expected = [k for k in range(longest) if events[k:k + 1] != others[k:k + 1]]
            self.assertEqual(parting(one, other), expected[0] if expected else None)
            told[bool(expected)] = True
        self.assertEqual(sorted(told), [False, True])


if __name__ == "__main__":
    unittest.main()
