"""Worlds: making, naming, putting, taking and weakening things (4.1 to 4.5), deeds (9.1), ==, len and repr (9.3)."""

import copy
import unittest

from helping import FAR_OFF, NO_NAMES, NO_WHOLE_NUMBERS, Refusing, block_of, seen_world
from pyheap.errors import (
    Bare, Gone, NoForm, NoName, NoNumber, NoRow, NoSize, NoSlot, NoSteps, NotWeak, NoTarget, NoThing,
)
from pyheap.watching import (
    called, count_of, counters, form_of, listed, past, place_of, slots_of, target_of, watchers_of,
)
from pyheap.world import World

NO_NAMES_OF_THINGS = (*NO_NAMES, "x", "unused", "leaf", "row")
NO_SLOTS = (*FAR_OFF, *NO_WHOLE_NUMBERS, -1)
NO_STEPS = (
    None, True, 0, 1, "", "fail", "forget", [], [("fail",)], ("fail",), ("forget", "a"), (("fail",),) * 4,
    (("forget", "a"),) * 4, ((),), (None,), (0,), (True,), ("fail", "fail"), (["fail"],), (("fail", "a"),),
    (("fail", None),), (("collect", 2),), (("collect", "a"),), (("forget",),), (("forget", "A"),), (("forget", ""),),
    (("forget", "abcdefg"),), (("forget", None),), (("forget", 0),), (("forget", ["a"]),), (("forget", ("a",)),),
    (("forget", "a", "b"),), (("forget", "a", 0),), (("Forget", "a"),), (("free", "a"),), (("make", "a"),),
    (("", "a"),), ((None, "a"),), ((["forget"], "a"),), (("fail",), ("fail",), "fail"), (("fail",), None),
    (((("fail",),),),), (((((("fail",),),),),),), (("fail",), ("forget", "a"), ("forget", "a1")),
)
NO_STEPS_OF_A_THING = (
    *NO_STEPS, (("save",),), (("save", "A"),), (("save", 0),), (("save", None),), (("save", "a", "b"),),
    (("clear",),), (("clear", -1),), (("clear", 8),), (("clear", 10 ** 30),), (("clear", True),), (("clear", False),),
    (("clear", None),), (("clear", "0"),), (("clear", (0,)),), (("clear", 0, 0),), (("clear", "a"),),
)
NO_STEPS_OF_A_WEAK_ONE = (
    *NO_STEPS_OF_A_THING, (("save", "a"),), (("clear", 0),), (("fail",), ("clear", 7)),
    (("forget", "a"), ("save", "a")),
)
STEPS = (
    (), (("fail",),), (("collect",),), (("forget", "a"),), (("forget", "abcdef"),), (("forget", "zz"), ("fail",)),
    (("collect",), ("forget", "unused"), ("fail",)), (("fail",), ("fail",), ("fail",)),
)
STEPS_OF_A_THING = (
    *STEPS, (("save", "a"),), (("save", "zzzzzz"),), (("clear", 0),), (("clear", 7),),
    (("save", "a"), ("clear", 3), ("forget", "a")),
)


class Telling(Refusing):
    def setUp(self):
        self.world = World()

    def assert_world_refuses(self, refusal, word, *things, **named):
        """A refusal that changes nothing."""
        before = copy.deepcopy(seen_world(self.world))
        error = self.assert_refused(refusal, getattr(self.world, word), *things, **named)
        self.assertEqual(seen_world(self.world), before)
        return error

    def fill(self):
        """A leaf, a row of three slots, a fixed thing of two, and a weak one, each by its form's first letter."""
        self.world.make("l", "leaf")
        self.world.make("r", "row", holding=("l", None, "l"))
        self.world.make("f", "fixed", holding=(None, "r"))
        self.world.weaken("w", "r")


class NewWorld(Telling):
    def test_nothing_is_there(self):
        self.assertEqual(len(self.world), 0)
        self.assertEqual(called(self.world), [])
        self.assertEqual([listed(self.world, place) for place in range(4)], [[], [], [], []])
        self.assertEqual((counters(self.world), past(self.world), self.world.deeds()), ((0, 0, 0), [], []))

    def test_its_numbers_at_the_edges(self):
        for pool_bytes in (1072, 1088, 4080, 4096):
            World(pool_bytes=pool_bytes)
        for pool_count in (1, 2, 63, 64):
            World(pool_count=pool_count)
        for nesting in (2, 3, 49, 50):
            World(nesting=nesting)

    def test_its_blocks_are_as_blocks_makes_them(self):
        world = World(pool_bytes=1072, pool_count=1)
        places = []
        for at in range(9):
            number = world.make("abcdefghi"[at], "row", holding=(None,) * 8)
            places.append(block_of(world, number))
        self.assertEqual(places, [(0, 0, block) for block in range(8)] + [(1, 0, 0)])
        self.assertEqual(world.make("z", "leaf", extra=497), 9)
        self.assertEqual(block_of(world, 9), ("great", 0))

    def test_pool_sizes_that_are_none(self):
        for at, thing in enumerate((*FAR_OFF, *NO_WHOLE_NUMBERS, 0, 1056, 1071, 1073, 4095, 4112)):
            with self.subTest(at=at):
                self.assert_refused(NoSize, World, pool_bytes=thing)

    def test_pool_counts_that_are_none(self):
        for at, thing in enumerate((*FAR_OFF, *NO_WHOLE_NUMBERS, 0, 65)):
            with self.subTest(at=at):
                self.assert_refused(NoNumber, World, pool_count=thing)

    def test_nestings_that_are_none(self):
        for at, thing in enumerate((*FAR_OFF, *NO_WHOLE_NUMBERS, 0, 1, 51)):
            with self.subTest(at=at):
                self.assert_refused(NoNumber, World, nesting=thing)

    def test_the_pool_size_is_refused_first(self):
        self.assert_refused(NoSize, World, pool_bytes=0, pool_count=0, nesting=0)
        self.assert_refused(NoSize, World, pool_bytes=None, pool_count=0)
        self.assert_refused(NoSize, World, pool_bytes=1073, nesting=True)
        self.assert_refused(NoNumber, World, pool_count=0, nesting=0)

    def test_the_numbers_are_handed_in_by_name_alone(self):
        with self.assertRaises(TypeError):
            World(4096)


class Make(Telling):
    def test_numbers_go_up_from_0(self):
        told = [self.world.make("a", form) for form in ("leaf", "row", "fixed", "leaf")]
        told.append(self.world.weaken("w", "a"))
        told.append(self.world.make("a", "leaf"))
        self.assertEqual(told, [0, 1, 2, 3, 4, 5])

    def test_a_number_is_never_given_again(self):
        self.world.make("a", "row")
        self.world.forget("a")
        self.assertEqual(self.world.make("a", "row"), 1)

    def test_forms_and_slots(self):
        self.fill()
        self.assertEqual([form_of(self.world, number) for number in range(4)], ["leaf", "row", "fixed", "weak"])
        self.assertEqual([slots_of(self.world, number) for number in range(4)], [[], [0, None, 0], [None, 1], []])

    def test_counts_are_how_often_names_and_slots_hold(self):
        self.fill()
        self.assertEqual([count_of(self.world, number) for number in range(4)], [3, 2, 1, 1])

    def test_all_but_leaves_are_tracked_at_the_end_of_list_0(self):
        self.fill()
        self.assertEqual([place_of(self.world, number) for number in range(4)], [None, 0, 0, 0])
        self.assertEqual(listed(self.world, 0), [1, 2, 3])

    def test_bytes_of_the_blocks(self):
        told = []
        for many in (0, 1, 8):
            for form in ("row", "fixed"):
                number = self.world.make("a", form, holding=(None,) * many)
                told.append(self.world.heap.blocks.size_at(block_of(self.world, number)))
        self.assertEqual(told, [56, 40, 64, 48, 120, 104])
        told = []
        for extra in (0, 1, 496, 497, 2000):
            number = self.world.make("a", "leaf", extra=extra)
            told.append(self.world.heap.blocks.size_at(block_of(self.world, number)))
        self.assertEqual(told, [16, 17, 512, 513, 2016])
        number = self.world.weaken("w", "a")
        self.assertEqual(self.world.heap.blocks.size_at(block_of(self.world, number)), 72)

    def test_a_name_that_is_given_again_lets_the_old_thing_go(self):
        self.world.make("a", "leaf")
        self.world.make("a", "leaf")
        self.assertEqual((past(self.world), called(self.world)), ([("free", 0)], [("a", 1)]))

    def test_the_new_thing_has_its_block_before_the_old_one_gives_its_own_back(self):
        self.world.make("a", "leaf")
        self.world.make("a", "leaf")
        self.assertEqual(block_of(self.world, 1), (0, 0, 1))

    def test_it_may_hold_what_its_name_named(self):
        self.world.make("a", "leaf")
        self.world.make("a", "row", holding=("a", "a"))
        self.assertEqual((slots_of(self.world, 1), count_of(self.world, 0), past(self.world)), ([0, 0], 2, []))

    def test_names_of_one_to_six_letters(self):
        for name in ("a", "z", "az", "abcdef", "zzzzzz", "leaf", "great"):
            self.world.make(name, "leaf")
        self.assertEqual(len(called(self.world)), 7)

    def test_no_names(self):
        for at, name in enumerate(NO_NAMES):
            with self.subTest(at=at):
                self.assert_world_refuses(NoName, "make", name, "leaf")

    def test_no_forms(self):
        others = ("weak", "Leaf", "leaf ", "", "a", "rows", None, True, 0, ["leaf"], ("leaf",), [], (((("row",),),),))
        for at, form in enumerate(others):
            with self.subTest(at=at):
                self.assert_world_refuses(NoForm, "make", "a", form)

    def test_no_holdings(self):
        self.world.make("a", "leaf")
        others = (
            None, True, 0, "a", "", [], ["a"], ["a", None], ("a",) * 9, (None,) * 9, ("b",), ("a", "b"), ("A",), ("",),
            (0,), (True,), (False,), (("a",),), (["a"],), ([],), ((),), ("a", 10 ** 5000), ("aaaaaaa",),
        )
        for form in ("row", "fixed"):
            for at, holding in enumerate(others):
                with self.subTest(form=form, at=at):
                    self.assert_world_refuses(NoThing, "make", "c", form, holding=holding)

    def test_a_leaf_holds_nothing_not_even_none(self):
        self.world.make("a", "leaf")
        for holding in (("a",), (None,), (None, None), [], None, "a"):
            self.assert_world_refuses(NoThing, "make", "b", "leaf", holding=holding)

    def test_the_new_name_is_no_name_of_a_thing_yet(self):
        self.assert_world_refuses(NoThing, "make", "a", "row", holding=("a",))

    def test_steps(self):
        for form in ("leaf", "row", "fixed"):
            for steps in STEPS_OF_A_THING:
                world = World()
                self.assertEqual(world.make("b", form, stepping=steps), 0)
                self.assertEqual(world.deeds(), [("make", "b", form, (), steps, 0)])
                self.assertEqual((past(world), place_of(world, 0)), ([], None if form == "leaf" else 0))

    def test_no_steps(self):
        for form in ("leaf", "row", "fixed"):
            for at, steps in enumerate(NO_STEPS_OF_A_THING):
                with self.subTest(form=form, at=at):
                    self.assert_world_refuses(NoSteps, "make", "b", form, stepping=steps)

    def test_no_extras(self):
        for form, more in (("leaf", (-1, 2001)), ("row", (-1, 1, 16)), ("fixed", (-1, 1, 2000))):
            for at, extra in enumerate((*FAR_OFF, *NO_WHOLE_NUMBERS, *more)):
                with self.subTest(form=form, at=at):
                    self.assert_world_refuses(NoSize, "make", "b", form, extra=extra)

    def test_of_two_refusals_the_first_one_comes(self):
        bad = {"holding": ("x",), "stepping": (0,), "extra": -1}
        self.assert_world_refuses(NoName, "make", "A", "weak", **bad)
        self.assert_world_refuses(NoForm, "make", "a", "weak", **bad)
        for form in ("leaf", "row", "fixed"):
            self.assert_world_refuses(NoThing, "make", "a", form, **bad)
            self.assert_world_refuses(NoSteps, "make", "a", form, stepping=(0,), extra=-1)
            self.assert_world_refuses(NoThing, "make", "a", form, holding=[], extra=-1)
            self.assert_world_refuses(NoName, "make", None, form, extra=-1)

    def test_what_comes_behind_the_star_is_handed_in_by_name_alone(self):
        with self.assertRaises(TypeError):
            self.world.make("a", "row", ())


class HeldMeanwhile(Telling):
    """What names stand for is held till the new thing has its name, whatever is forgotten first."""

    def lose_a_ring_that_forgets(self, *names):
        """The collection that the next tracked thing brings asks a lost ring, which forgets these names."""
        self.world.make("r", "row", holding=(None,), stepping=tuple(("forget", name) for name in names))
        self.world.put("r", 0, "r")
        self.world.forget("r")
        self.world.set_bounds(1, 999, 999)

    def test_through_a_collection(self):
        self.world.make("b", "leaf")
        self.lose_a_ring_that_forgets("b")
        number = self.world.make("a", "row", holding=("b", None, "b"))
        self.assertEqual(past(self.world), [("last", 1), ("free", 1)])
        self.assertEqual((slots_of(self.world, number), count_of(self.world, 0)), ([0, None, 0], 2))
        self.assertEqual(called(self.world), [("a", number)])

    def test_in_weaken(self):
        self.world.make("b", "leaf")
        self.lose_a_ring_that_forgets("b")
        number = self.world.weaken("a", "b")
        # The target came through the collection, but nothing else held it.
        self.assertEqual(past(self.world), [("last", 1), ("free", 1), ("free", 0)])
        self.assertEqual(target_of(self.world, number), None)

    def test_in_weaken_with_steps_of_the_weak_thing(self):
        self.world.make("b", "leaf")
        self.lose_a_ring_that_forgets("b")
        number = self.world.weaken("a", "b", stepping=(("forget", "a"),))
        self.assertEqual(
            past(self.world), [("last", 1), ("free", 1), ("call", number), ("free", number), ("free", 0)],
        )
        self.assertEqual((called(self.world), len(self.world)), ([], 0))

    def test_a_thing_that_is_lost_else_is_not_lost_in_that_collection(self):
        self.world.make("b", "row", holding=(None,))
        self.world.put("b", 0, "b")
        self.lose_a_ring_that_forgets("b")
        number = self.world.make("a", "fixed", holding=("b",))
        self.assertEqual((slots_of(self.world, number), count_of(self.world, 0), len(self.world)), ([0], 2, 2))

    def test_names_stand_for_what_they_name_at_the_call(self):
        self.world.make("b", "leaf")
        self.world.make("r", "row", holding=(None,), stepping=(("save", "b"),))
        self.world.put("r", 0, "r")
        self.world.forget("r")
        self.world.set_bounds(1, 999, 999)
        number = self.world.make("a", "row", holding=("b",))
        self.assertEqual((slots_of(self.world, number), called(self.world)), ([0], [("a", number), ("b", 1)]))

    def test_till_the_old_thing_of_the_name_is_gone(self):
        self.world.make("b", "leaf")
        self.world.make("a", "leaf", stepping=(("forget", "a"), ("forget", "b")))
        number = self.world.make("a", "row", holding=("b",))
        # The old thing forgets the new one at once, but what this held dies behind all that.
        self.assertEqual(past(self.world), [("last", 1), ("free", number), ("free", 1), ("free", 0)])
        self.assertEqual((len(self.world), called(self.world)), (0, []))


class Let(Telling):
    def test_another_name_holds_it_too(self):
        self.fill()
        self.assertEqual(self.world.let("a", "r"), 1)
        self.assertEqual((called(self.world)[0], count_of(self.world, 1)), (("a", 1), 3))

    def test_what_the_name_named_dies(self):
        self.world.make("a", "leaf")
        self.world.make("b", "leaf")
        self.assertEqual(self.world.let("a", "b"), 1)
        self.assertEqual((past(self.world), count_of(self.world, 1)), ([("free", 0)], 2))

    def test_a_name_given_again_to_its_own_thing(self):
        self.world.make("a", "leaf", stepping=(("fail",),))
        self.assertEqual(self.world.let("a", "a"), 0)
        self.assertEqual((past(self.world), count_of(self.world, 0)), ([], 1))

    def test_a_thing_may_be_held_by_what_its_new_name_named(self):
        self.world.make("b", "leaf")
        self.world.make("a", "row", holding=("b",))
        self.world.forget("b")
        self.world.make("c", "leaf")
        self.world.let("b", "c")
        self.world.take("c", "a", 0)
        self.world.let("a", "c")
        self.assertEqual((past(self.world), count_of(self.world, 0)), ([("free", 1)], 2))

    def test_refusals(self):
        self.fill()
        for at, name in enumerate(NO_NAMES):
            with self.subTest(at=at):
                self.assert_world_refuses(NoName, "let", name, "l")
                self.assert_world_refuses(NoName, "let", name, name)
                self.assert_world_refuses(NoName, "let", name, "x")
        for at, other in enumerate(NO_NAMES_OF_THINGS):
            with self.subTest(at=at):
                self.assert_world_refuses(NoThing, "let", "a", other)


class Forget(Telling):
    def test_told_is_how_many_things_were_freed(self):
        self.fill()
        self.assertEqual(self.world.forget("r"), 0)
        self.assertEqual(self.world.forget("l"), 0)
        self.assertEqual(self.world.forget("w"), 1)
        self.assertEqual(self.world.forget("f"), 3)
        self.assertEqual((len(self.world), called(self.world)), (0, []))

    def test_what_a_collection_frees_meanwhile_counts_too(self):
        self.world.make("r", "row", holding=(None,))
        self.world.put("r", 0, "r")
        self.world.forget("r")
        self.world.make("a", "leaf", stepping=(("collect",),))
        self.assertEqual(self.world.forget("a"), 2)

    def test_what_rises_is_not_freed(self):
        self.world.make("a", "leaf", stepping=(("save", "b"),))
        self.assertEqual(self.world.forget("a"), 0)
        self.assertEqual(called(self.world), [("b", 0)])

    def test_refusals(self):
        self.fill()
        for at, name in enumerate(NO_NAMES_OF_THINGS):
            with self.subTest(at=at):
                self.assert_world_refuses(NoThing, "forget", name)
        self.world.forget("l")
        self.assert_world_refuses(NoThing, "forget", "l")


class Put(Telling):
    def test_a_slot_holds_another_thing(self):
        self.fill()
        self.assertEqual(self.world.put("r", 1, "w"), 0)
        self.assertEqual((slots_of(self.world, 1), count_of(self.world, 3)), ([0, 3, 0], 2))

    def test_a_slot_holds_nothing(self):
        self.fill()
        self.assertEqual(self.world.put("r", 0, None), 0)
        self.assertEqual(self.world.put("r", 1, None), 0)
        self.assertEqual((slots_of(self.world, 1), count_of(self.world, 0)), ([None, None, 0], 2))

    def test_told_is_how_many_things_were_freed(self):
        self.world.make("l", "leaf")
        self.world.make("f", "fixed", holding=("l",))
        self.world.make("r", "row", holding=("f",))
        self.world.forget("l")
        self.world.forget("f")
        self.world.make("n", "leaf")
        self.assertEqual(self.world.put("r", 0, "n"), 2)
        self.assertEqual((past(self.world), slots_of(self.world, 2)), ([("free", 0), ("free", 1)], [3]))

    def test_the_same_put_again_in_its_slot(self):
        self.world.make("l", "leaf", stepping=(("fail",),))
        self.world.make("r", "row", holding=("l",))
        self.world.take("l", "r", 0)
        self.assertEqual(self.world.put("r", 0, "l"), 0)
        self.assertEqual((past(self.world), count_of(self.world, 0)), ([], 2))

    def test_the_new_one_is_held_when_the_old_one_dies(self):
        # The old thing forgets the name of the new one, which is then held by the slot alone.
        self.world.make("o", "leaf", stepping=(("forget", "n"),))
        self.world.make("r", "row", holding=("o",))
        self.world.forget("o")
        self.world.make("n", "leaf")
        self.assertEqual(self.world.put("r", 0, "n"), 1)
        self.assertEqual((past(self.world), slots_of(self.world, 1)), ([("last", 0), ("free", 0)], [2]))
        self.assertEqual(count_of(self.world, 2), 1)

    def test_a_row_in_itself(self):
        self.fill()
        self.world.put("r", 1, "r")
        self.assertEqual((slots_of(self.world, 1), count_of(self.world, 1)), ([0, 1, 0], 3))

    def test_no_rows(self):
        self.fill()
        for name, form in (("l", "leaf"), ("f", "fixed"), ("w", "weak")):
            for at in (0, 9, None):
                for other in ("l", None, "x", 0):
                    self.assertEqual(self.assert_world_refuses(NoRow, "put", name, at, other).form, form)

    def test_no_slots(self):
        self.fill()
        self.world.make("e", "row")
        for at, slot in enumerate((*NO_SLOTS, 3)):
            with self.subTest(at=at):
                for other in ("l", None, "x", 0):
                    self.assertEqual(self.assert_world_refuses(NoSlot, "put", "r", slot, other).many, 3)
        self.assertEqual(self.assert_world_refuses(NoSlot, "put", "e", 0, "l").many, 0)

    def test_no_things(self):
        self.fill()
        for at, name in enumerate(NO_NAMES_OF_THINGS):
            with self.subTest(at=at):
                self.assert_world_refuses(NoThing, "put", name, 0, "l")
                self.assert_world_refuses(NoThing, "put", name, 9, "x")
                if name is not None:
                    self.assert_world_refuses(NoThing, "put", "r", 0, name)


class Take(Telling):
    def test_out_of_a_row_and_out_of_a_fixed_thing(self):
        self.fill()
        self.assertEqual(self.world.take("a", "r", 2), 0)
        self.assertEqual(self.world.take("b", "f", 1), 1)
        self.assertEqual(called(self.world)[:2], [("a", 0), ("b", 1)])
        self.assertEqual((count_of(self.world, 0), count_of(self.world, 1)), (4, 3))

    def test_a_thing_out_of_what_dies_by_that(self):
        self.world.make("l", "leaf")
        self.world.make("r", "row", holding=("l",))
        self.world.forget("l")
        self.assertEqual(self.world.take("r", "r", 0), 0)
        self.assertEqual((past(self.world), called(self.world)), ([("free", 1)], [("r", 0)]))
        self.assertEqual(count_of(self.world, 0), 1)

    def test_a_row_out_of_itself(self):
        self.world.make("r", "row", holding=(None,))
        self.world.put("r", 0, "r")
        self.assertEqual(self.world.take("r", "r", 0), 0)
        self.assertEqual((past(self.world), count_of(self.world, 0)), ([], 2))

    def test_no_names_and_no_things(self):
        self.fill()
        for at, name in enumerate(NO_NAMES):
            with self.subTest(at=at):
                self.assert_world_refuses(NoName, "take", name, "r", 0)
                self.assert_world_refuses(NoName, "take", name, "x", 9)
        for at, other in enumerate(NO_NAMES_OF_THINGS):
            with self.subTest(at=at):
                self.assert_world_refuses(NoThing, "take", "a", other, 0)
                self.assert_world_refuses(NoThing, "take", "a", other, None)

    def test_no_slots(self):
        self.fill()
        for at, slot in enumerate((*NO_SLOTS, 3)):
            with self.subTest(at=at):
                self.assertEqual(self.assert_world_refuses(NoSlot, "take", "a", "r", slot).many, 3)
                self.assertEqual(self.assert_world_refuses(NoSlot, "take", "a", "l", slot).many, 0)
        self.assertEqual(self.assert_world_refuses(NoSlot, "take", "a", "f", 2).many, 2)
        self.assertEqual(self.assert_world_refuses(NoSlot, "take", "a", "w", 0).many, 0)
        self.assertEqual(self.assert_world_refuses(NoSlot, "take", "a", "l", 0).many, 0)

    def test_bare_slots(self):
        self.fill()
        self.assert_world_refuses(Bare, "take", "a", "r", 1)
        self.assert_world_refuses(Bare, "take", "a", "f", 0)


class Weaken(Telling):
    def test_a_weak_thing_holds_nothing(self):
        self.fill()
        self.assertEqual((target_of(self.world, 3), slots_of(self.world, 3)), (1, []))
        self.assertEqual((count_of(self.world, 1), place_of(self.world, 3)), (2, 0))

    def test_targets_of_each_other_form(self):
        self.fill()
        self.assertEqual([self.world.weaken("abc"[at], "lrf"[at]) for at in range(3)], [4, 5, 6])
        self.assertEqual([target_of(self.world, number) for number in (4, 5, 6)], [0, 1, 2])

    def test_watchers_the_one_that_came_last_first(self):
        self.fill()
        self.world.weaken("a", "r")
        self.world.weaken("b", "r")
        self.assertEqual(watchers_of(self.world, 1), [5, 4, 3])
        self.world.forget("a")
        self.assertEqual(watchers_of(self.world, 1), [5, 3])

    def test_the_name_of_its_target(self):
        self.world.make("a", "leaf")
        self.assertEqual(self.world.weaken("a", "a"), 1)
        self.assertEqual((past(self.world), target_of(self.world, 1)), ([("free", 0)], None))

    def test_steps(self):
        self.fill()
        for steps in STEPS:
            self.world.weaken("b", "l", stepping=steps)
            self.assertEqual(self.world.deeds()[-1], ("weaken", "b", "l", steps))

    def test_refusals(self):
        self.fill()
        for at, name in enumerate(NO_NAMES):
            with self.subTest(at=at):
                self.assert_world_refuses(NoName, "weaken", name, "l")
                self.assert_world_refuses(NoName, "weaken", name, "x", stepping=0)
        for at, other in enumerate(NO_NAMES_OF_THINGS):
            with self.subTest(at=at):
                self.assert_world_refuses(NoThing, "weaken", "a", other)
                self.assert_world_refuses(NoThing, "weaken", "a", other, stepping=0)
        for at, steps in enumerate(NO_STEPS_OF_A_WEAK_ONE):
            with self.subTest(at=at):
                self.assert_world_refuses(NoSteps, "weaken", "a", "l", stepping=steps)
                self.assert_world_refuses(NoTarget, "weaken", "a", "w", stepping=steps)
        self.assert_world_refuses(NoTarget, "weaken", "a", "w")
        self.assert_world_refuses(NoTarget, "weaken", "w", "w")


class Ask(Telling):
    def test_the_target_gets_a_name(self):
        self.fill()
        self.assertEqual(self.world.ask("a", "w"), 1)
        self.assertEqual((called(self.world)[0], count_of(self.world, 1)), (("a", 1), 3))

    def test_the_name_of_the_weak_thing_itself(self):
        self.fill()
        self.assertEqual(self.world.ask("w", "w"), 1)
        self.assertEqual((past(self.world), watchers_of(self.world, 1)), ([("free", 3)], []))

    def test_gone(self):
        self.world.make("l", "leaf")
        self.world.weaken("w", "l")
        self.world.forget("l")
        self.assert_world_refuses(Gone, "ask", "a", "w")
        self.assert_world_refuses(Gone, "ask", "w", "w")

    def test_refusals(self):
        self.fill()
        for at, name in enumerate(NO_NAMES):
            with self.subTest(at=at):
                self.assert_world_refuses(NoName, "ask", name, "w")
                self.assert_world_refuses(NoName, "ask", name, "l")
                self.assert_world_refuses(NoName, "ask", name, "x")
        for at, other in enumerate(NO_NAMES_OF_THINGS):
            with self.subTest(at=at):
                self.assert_world_refuses(NoThing, "ask", "a", other)
        for other in ("l", "r", "f"):
            self.assert_world_refuses(NotWeak, "ask", "a", other)


class Deeds(Telling):
    def test_each_deed(self):
        self.world.make("a", "leaf", extra=7)
        self.world.make("b", "row", holding=("a", None), stepping=(("fail",), ("clear", 3)))
        self.world.make("f", "fixed")
        self.world.let("c", "a")
        self.world.put("b", 1, "b")
        self.world.put("b", 0, None)
        self.world.take("d", "b", 1)
        self.world.weaken("w", "a", stepping=(("forget", "c"),))
        self.world.weaken("v", "a")
        self.world.ask("e", "w")
        self.world.forget("e")
        self.world.collect(1)
        self.world.collect()
        self.world.collect(upto=0)
        self.world.set_bounds(1, 2, 3)
        self.world.switch(False)
        self.world.switch(True)
        self.world.freeze()
        self.world.thaw()
        self.assertEqual(self.world.deeds(), [
            ("make", "a", "leaf", (), (), 7),
            ("make", "b", "row", ("a", None), (("fail",), ("clear", 3)), 0),
            ("make", "f", "fixed", (), (), 0),
            ("let", "c", "a"),
            ("put", "b", 1, "b"),
            ("put", "b", 0, None),
            ("take", "d", "b", 1),
            ("weaken", "w", "a", (("forget", "c"),)),
            ("weaken", "v", "a", ()),
            ("ask", "e", "w"),
            ("forget", "e"),
            ("collect", 1),
            ("collect", 2),
            ("collect", 0),
            ("bounds", 1, 2, 3),
            ("switch", False),
            ("switch", True),
            ("freeze",),
            ("thaw",),
        ])
        self.assertIs(self.world.deeds()[15][1], False)

    def test_deeds_that_change_nothing_are_told_too(self):
        self.world.make("a", "leaf")
        self.world.let("a", "a")
        self.world.collect(0)
        self.world.freeze()
        self.assertEqual(len(self.world.deeds()), 4)

    def test_what_is_done_in_steps_is_no_deed(self):
        self.world.make("a", "leaf", stepping=(("save", "b"), ("collect",)))
        self.world.forget("a")
        self.assertEqual([deed[0] for deed in self.world.deeds()], ["make", "forget"])

    def test_the_list_is_a_new_one(self):
        self.fill()
        deeds = self.world.deeds()
        deeds.clear()
        self.assertEqual(len(self.world.deeds()), 4)
        self.assertEqual(self.world.deeds(), self.world.deeds())


class Equality(Telling):
    def test_the_same_numbers_and_deeds(self):
        other = World(pool_bytes=4096, pool_count=16, nesting=50)
        self.assertEqual(self.world, other)
        self.fill()
        self.assertNotEqual(self.world, other)
        self.world, other = other, self.world
        self.fill()
        self.assertTrue(self.world == other)
        self.assertFalse(self.world != other)

    def test_other_numbers(self):
        for named in ({"pool_bytes": 4080}, {"pool_count": 15}, {"nesting": 49}):
            self.assertFalse(self.world == World(**named))

    def test_the_same_things_by_other_deeds(self):
        self.world.make("a", "leaf")
        other = World()
        other.make("a", "leaf")
        other.let("a", "a")
        self.assertFalse(self.world == other)

    def test_the_order_of_deeds(self):
        other = World()
        for world, order in ((self.world, (True, False)), (other, (False, True))):
            for is_on in order:
                world.switch(is_on)
        self.assertFalse(self.world == other)

    def test_no_other_thing_is_equal_to_a_world(self):
        for thing in (None, 0, True, "", "World(0, 0, 0)", [], (), {}, self.world.deeds(), (4096, 16, 50), object()):
            self.assertFalse(self.world == thing)
            self.assertFalse(thing == self.world)
            self.assertTrue(self.world != thing)


class LenAndRepr(Telling):
    def test_things_names_and_bytes(self):
        self.assertEqual((repr(self.world), len(self.world)), ("World(0, 0, 0)", 0))
        self.fill()
        self.assertEqual((repr(self.world), len(self.world)), ("World(4, 4, 224)", 4))
        self.world.let("a", "l")
        self.world.forget("w")
        self.world.forget("f")
        self.assertEqual((repr(self.world), len(self.world)), ("World(2, 3, 96)", 2))

    def test_great_blocks_do_not_count(self):
        self.world.make("a", "leaf", extra=497)
        self.assertEqual(repr(self.world), "World(1, 1, 0)")
        self.world.make("b", "leaf", extra=496)
        self.assertEqual(repr(self.world), "World(2, 2, 512)")


if __name__ == "__main__":
    unittest.main()
