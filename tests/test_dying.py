"""Steps and dying: what is done, and in which order (5.1 to 5.3)."""

import unittest

from helping import block_of
from pyheap.watching import (
    called, count_of, counters, form_of, listed, past, place_of, slots_of, target_of, tours, was_asked, watchers_of,
)
from pyheap.world import World


def name_of(at):
    """A name for each number from 0 on, which no other test uses: n and five letters."""
    letters = ""
    for _ in range(5):
        letters = "abcdefghij"[at % 10] + letters
        at //= 10
    return "n" + letters


class Worlds(unittest.TestCase):
    def setUp(self):
        self.world = World()

    def ring(self, name="ring", *, stepping=()):
        """A lost row that holds itself."""
        number = self.world.make(name, "row", holding=(None,), stepping=stepping)
        self.world.put(name, 0, name)
        self.world.forget(name)
        return number

    def chain(self, length, *, form="row", stepping=()):
        """Things of which each holds the one that came ahead, the last one called a; told are the numbers."""
        numbers = [self.world.make("a", form, holding=(None,), stepping=stepping)]
        for _ in range(length - 1):
            numbers.append(self.world.make("a", form, holding=("a",), stepping=stepping))
        return numbers

    def frees(self):
        return [number for word, number in past(self.world) if word == "free"]


class Steps(Worlds):
    def test_save(self):
        for form in ("leaf", "row", "fixed"):
            self.world = World()
            self.world.make("a", form, stepping=(("save", "b"),))
            self.assertEqual(self.world.forget("a"), 0)
            self.assertEqual((past(self.world), called(self.world)), ([("last", 0)], [("b", 0)]))
            self.assertEqual((count_of(self.world, 0), was_asked(self.world, 0)), (1, True))

    def test_save_lets_go_what_the_name_named(self):
        self.world.make("b", "leaf")
        self.world.make("a", "leaf", stepping=(("save", "b"),))
        self.assertEqual(self.world.forget("a"), 1)
        self.assertEqual((past(self.world), called(self.world)), ([("last", 1), ("free", 0)], [("b", 1)]))

    def test_save_by_several_names(self):
        self.world.make("a", "leaf", stepping=(("save", "b"), ("save", "c"), ("save", "b")))
        self.world.forget("a")
        self.assertEqual((called(self.world), count_of(self.world, 0)), ([("b", 0), ("c", 0)], 2))

    def test_forget(self):
        self.world.make("b", "leaf")
        self.world.make("a", "row", stepping=(("forget", "b"),))
        self.assertEqual(self.world.forget("a"), 2)
        self.assertEqual(past(self.world), [("last", 1), ("free", 0), ("free", 1)])

    def test_forget_of_a_name_that_names_nothing(self):
        self.world.make("a", "row", stepping=(("forget", "b"), ("forget", "a"), ("save", "c")))
        self.world.forget("a")
        self.assertEqual((past(self.world), called(self.world)), ([("last", 0)], [("c", 0)]))

    def test_save_and_forget(self):
        self.world.make("a", "row", stepping=(("save", "b"), ("forget", "b")))
        self.assertEqual(self.world.forget("a"), 1)
        self.assertEqual((past(self.world), called(self.world)), ([("last", 0), ("free", 0)], []))

    def test_clear(self):
        self.world.make("l", "leaf")
        self.world.make("m", "leaf")
        self.world.make("a", "row", holding=("l", "m"), stepping=(("clear", 0), ("save", "a")))
        self.world.forget("l")
        self.world.forget("m")
        self.assertEqual(self.world.forget("a"), 1)
        self.assertEqual((past(self.world), slots_of(self.world, 2)), ([("last", 2), ("free", 0)], [None, 1]))

    def test_clear_of_what_is_no_slot_or_holds_nothing(self):
        self.world.make("a", "row", holding=(None, None), stepping=(("clear", 0), ("clear", 2), ("save", "b")))
        self.world.forget("a")
        self.assertEqual((past(self.world), slots_of(self.world, 0)), ([("last", 0)], [None, None]))

    def test_clear_of_a_slot_that_holds_the_thing_itself(self):
        self.world.make("a", "row", holding=(None, None), stepping=(("clear", 1), ("save", "b")))
        self.world.put("a", 1, "a")
        self.world.forget("a")
        self.world.collect()
        self.assertEqual((slots_of(self.world, 0), count_of(self.world, 0)), ([None, None], 1))

    def test_only_rows_are_cleared(self):
        self.world.make("l", "leaf")
        self.world.make("a", "fixed", holding=("l",), stepping=(("clear", 0), ("save", "b")))
        self.world.make("c", "leaf", stepping=(("clear", 0), ("save", "d")))
        self.world.forget("a")
        self.world.forget("c")
        self.assertEqual((slots_of(self.world, 1), called(self.world)), ([0], [("b", 1), ("d", 2), ("l", 0)]))

    def test_fail_leaves_the_rest_undone(self):
        self.world.make("b", "leaf")
        self.world.make("a", "leaf", stepping=(("save", "c"), ("fail",), ("forget", "b")))
        self.world.forget("a")
        self.assertEqual(past(self.world), [("last", 1), ("failed", 1)])
        self.assertEqual(called(self.world), [("b", 0), ("c", 1)])

    def test_a_thing_that_fails_at_once_is_freed(self):
        self.world.make("a", "row", stepping=(("fail",), ("save", "a"), ("fail",)))
        self.assertEqual(self.world.forget("a"), 1)
        self.assertEqual(past(self.world), [("last", 0), ("failed", 0), ("free", 0)])

    def test_collect_is_a_collection_of_all_lists(self):
        ring = self.ring()
        self.world.make("a", "leaf", stepping=(("collect",), ("save", "a")))
        self.world.forget("a")
        self.assertEqual(past(self.world), [("last", 1), ("free", ring)])
        self.assertEqual((tours(self.world), counters(self.world)), ([(0, 0), (0, 0), (1, 1)], (0, 0, 0)))

    def test_no_collection_is_done_while_one_goes_on(self):
        ring = self.ring(stepping=(("collect",), ("collect",)))
        self.assertEqual(self.world.collect(1), 1)
        self.assertEqual(past(self.world), [("last", ring), ("free", ring)])
        self.assertEqual(tours(self.world), [(0, 0), (1, 1), (0, 0)])

    def test_steps_of_weak_things(self):
        self.world.make("t", "leaf")
        self.world.make("l", "leaf")
        ring = self.ring()
        weak = self.world.weaken("w", "t", stepping=(("forget", "l"), ("collect",), ("fail",)))
        self.world.forget("t")
        self.assertEqual(
            past(self.world), [("call", weak), ("free", 1), ("free", ring), ("failed", weak), ("free", 0)],
        )
        self.assertEqual((called(self.world), was_asked(self.world, weak)), ([("w", weak)], False))

    def test_a_weak_thing_that_fails_leaves_the_rest_undone(self):
        self.world.make("t", "leaf")
        self.world.weaken("w", "t", stepping=(("fail",), ("forget", "w")))
        self.world.forget("t")
        self.assertEqual(past(self.world), [("call", 1), ("failed", 1), ("free", 0)])
        self.assertEqual(called(self.world), [("w", 1)])


class Asked(Worlds):
    def test_a_thing_is_asked_once(self):
        for form in ("leaf", "row", "fixed"):
            self.world = World()
            self.world.make("a", form, stepping=(("save", "a"),))
            self.assertEqual(self.world.forget("a"), 0)
            self.assertEqual(self.world.forget("a"), 1)
            self.assertEqual(past(self.world), [("last", 0), ("free", 0)])

    def test_a_thing_without_steps_is_not_asked(self):
        self.world.make("a", "row")
        self.assertFalse(was_asked(self.world, 0))
        self.world.forget("a")
        self.assertEqual(past(self.world), [("free", 0)])

    def test_what_rises_is_tracked_at_the_end_of_list_0(self):
        self.world.make("a", "row", stepping=(("save", "a"),))
        self.world.make("f", "fixed", stepping=(("save", "f"),))
        self.world.make("l", "leaf", stepping=(("save", "l"),))
        self.world.collect(1)
        self.world.make("b", "row")
        self.assertEqual((place_of(self.world, 0), place_of(self.world, 1)), (2, None))
        for name in "afl":
            self.world.forget(name)
        self.assertEqual(listed(self.world, 0), [3, 0, 1])
        self.assertEqual((place_of(self.world, 2), listed(self.world, 2)), (None, []))

    def test_what_rises_is_tracked_where_a_collection_put_it_meanwhile(self):
        self.world.make("a", "row", stepping=(("collect",), ("save", "a")))
        self.world.make("f", "fixed", stepping=(("collect",), ("save", "f")))
        self.world.forget("a")
        self.assertEqual((place_of(self.world, 0), place_of(self.world, 1)), (2, None))
        # A fixed thing that holds nothing is tracked no more, also while it is asked.
        self.world.forget("f")
        self.assertEqual((place_of(self.world, 1), called(self.world)), (None, [("a", 0), ("f", 1)]))

    def test_what_is_asked_is_looked_at_but_kept(self):
        self.world.make("b", "row")
        self.world.make("a", "row", holding=("b",), stepping=(("collect",),))
        self.world.forget("b")
        self.world.forget("a")
        self.assertEqual(tours(self.world)[2], (1, 0))
        self.assertEqual(past(self.world), [("last", 1), ("free", 0), ("free", 1)])

    def test_it_holds_all_that_it_held_while_it_does_its_steps(self):
        self.world.make("b", "row", stepping=(("save", "b"),))
        self.world.make("a", "fixed", holding=("b", "b"), stepping=(("forget", "b"), ("save", "a")))
        self.world.forget("a")
        self.assertEqual((past(self.world), slots_of(self.world, 1)), ([("last", 1)], [0, 0]))

    def test_its_weak_things_lose_it_only_behind_its_steps(self):
        self.world.make("a", "row", stepping=(("save", "b"),))
        self.world.weaken("w", "a", stepping=(("forget", "x"),))
        self.world.forget("a")
        self.assertEqual((target_of(self.world, 1), past(self.world)), (0, [("last", 0)]))
        self.world.forget("b")
        self.assertEqual((target_of(self.world, 1), past(self.world)), (None, [("last", 0), ("call", 1), ("free", 0)]))

    def test_things_that_rise_out_of_one_death(self):
        self.world.make("b", "row", stepping=(("save", "b"),))
        self.world.make("c", "leaf", stepping=(("save", "c"),))
        self.world.make("a", "row", holding=("b", "c"))
        self.world.forget("b")
        self.assertEqual(past(self.world), [])
        self.world.forget("c")
        self.assertEqual(self.world.forget("a"), 1)
        # From the last slot to the first, and each of them before the one that held it is freed.
        self.assertEqual(past(self.world), [("last", 1), ("last", 0), ("free", 2)])
        self.assertEqual(called(self.world), [("b", 0), ("c", 1)])


class Watchers(Worlds):
    def test_all_lose_their_target(self):
        self.world.make("t", "row")
        for name in "abc":
            self.world.weaken(name, "t")
        self.world.forget("t")
        self.assertEqual([target_of(self.world, number) for number in (1, 2, 3)], [None] * 3)
        self.assertEqual(past(self.world), [("free", 0)])

    def test_the_one_that_came_last_does_its_steps_first(self):
        self.world.make("t", "row")
        for name, steps in (("a", (("fail",),)), ("b", ()), ("c", (("forget", "x"),)), ("d", (("fail",),))):
            self.world.weaken(name, "t", stepping=steps)
        self.world.forget("t")
        self.assertEqual(
            past(self.world), [("call", 4), ("failed", 4), ("call", 3), ("call", 1), ("failed", 1), ("free", 0)],
        )

    def test_all_are_held_before_the_first_does_its_steps(self):
        self.world.make("t", "row")
        self.world.weaken("a", "t", stepping=(("forget", "b"),))
        self.world.weaken("b", "t", stepping=(("forget", "a"),))
        self.world.forget("t")
        # b forgets a, which is held, does its steps all the same, and is freed behind them.
        self.assertEqual(
            past(self.world), [("call", 2), ("call", 1), ("free", 2), ("free", 1), ("free", 0)],
        )

    def test_one_without_steps_is_not_held(self):
        self.world.make("t", "row")
        self.world.weaken("a", "t")
        self.world.weaken("b", "t", stepping=(("forget", "a"),))
        self.world.forget("t")
        self.assertEqual(past(self.world), [("call", 2), ("free", 1), ("free", 0)])

    def test_its_slots_are_emptied_behind_the_weak_things_steps(self):
        self.world.make("l", "leaf")
        self.world.make("t", "row", holding=("l",))
        self.world.weaken("w", "t", stepping=(("forget", "l"),))
        self.world.forget("t")
        self.assertEqual(past(self.world), [("call", 2), ("free", 0), ("free", 1)])

    def test_a_weak_thing_that_the_target_holds(self):
        self.world.make("t", "row", holding=(None,))
        self.world.weaken("w", "t", stepping=(("fail",),))
        self.world.put("t", 0, "w")
        self.world.forget("w")
        self.world.forget("t")
        self.assertEqual(past(self.world), [("call", 1), ("failed", 1), ("free", 1), ("free", 0)])

    def test_steps_are_done_once(self):
        self.world.make("t", "row")
        self.world.weaken("w", "t", stepping=(("forget", "x"),))
        self.world.forget("t")
        self.world.make("t", "row")
        self.world.forget("t")
        self.world.forget("w")
        self.assertEqual(past(self.world), [("call", 1), ("free", 0), ("free", 2), ("free", 1)])

    def test_a_weak_thing_that_dies_does_no_steps_and_its_target_loses_it(self):
        self.world.make("t", "row")
        self.world.weaken("w", "t", stepping=(("fail",),))
        self.assertEqual(self.world.forget("w"), 1)
        self.assertEqual((past(self.world), watchers_of(self.world, 0)), ([("free", 1)], []))
        self.world.forget("t")
        self.assertEqual(past(self.world), [("free", 1), ("free", 0)])


class Freeing(Worlds):
    def test_slots_are_emptied_from_the_last_one_to_the_first(self):
        for form in ("row", "fixed"):
            self.world = World()
            for name in "abc":
                self.world.make(name, "leaf")
            self.world.make("r", form, holding=("b", None, "c", "a", "b"))
            for name in "abc":
                self.world.forget(name)
            self.assertEqual(self.world.forget("r"), 4)
            self.assertEqual(self.frees(), [0, 2, 1, 3])

    def test_what_it_held_dies_before_it_is_freed(self):
        self.chain(4)
        self.world.forget("a")
        self.assertEqual(self.frees(), [0, 1, 2, 3])

    def test_the_block_comes_back_at_once(self):
        self.world.make("a", "leaf")
        self.world.make("b", "leaf")
        self.world.forget("a")
        self.assertEqual(self.world.heap.blocks.live(), [((0, 0, 1), 16)])
        self.world.make("c", "leaf")
        self.assertEqual(block_of(self.world, 2), (0, 0, 0))

    def test_blocks_come_back_in_the_order_of_freeing(self):
        self.world.make("l", "leaf", extra=48)
        self.world.make("a", "row", holding=("l",))
        self.world.forget("l")
        self.world.forget("a")
        self.assertEqual(block_of(self.world, self.world.make("b", "row", holding=(None,))), (0, 0, 1))
        self.assertEqual(block_of(self.world, self.world.make("c", "row", holding=(None,))), (0, 0, 0))

    def test_it_is_tracked_no_more(self):
        self.world.make("a", "row")
        self.world.make("b", "row")
        self.world.collect(0)
        self.world.forget("a")
        self.assertEqual([listed(self.world, place) for place in range(4)], [[], [1], [], []])

    def test_new_things_are_counted_less_but_never_below_0(self):
        for name in "abc":
            self.world.make(name, "row")
        self.assertEqual(counters(self.world), (3, 0, 0))
        self.world.make("l", "leaf")
        self.world.forget("l")
        self.assertEqual(counters(self.world), (3, 0, 0))
        self.world.forget("a")
        self.assertEqual(counters(self.world), (2, 0, 0))
        self.world.collect(0)
        self.world.forget("b")
        self.assertEqual(counters(self.world), (0, 1, 0))
        self.world.weaken("w", "c")
        self.world.forget("w")
        self.assertEqual(counters(self.world), (0, 1, 0))

    def test_a_thing_in_itself_does_not_die(self):
        ring = self.ring()
        self.assertEqual((past(self.world), count_of(self.world, ring)), ([], 1))


class Nesting(Worlds):
    def test_a_chain_as_long_as_nesting_dies_at_once(self):
        for nesting in (2, 3, 50):
            for form in ("row", "fixed"):
                self.world = World(nesting=nesting)
                numbers = self.chain(nesting, form=form)
                self.assertEqual(self.world.forget("a"), nesting)
                self.assertEqual(self.frees(), numbers)

    def test_what_would_die_within_nesting_others_dies_behind_them(self):
        for nesting in (2, 3, 50):
            for form in ("row", "fixed"):
                self.world = World(nesting=nesting)
                numbers = self.chain(nesting + 1, form=form)
                self.assertEqual(self.world.forget("a"), nesting + 1)
                self.assertEqual(self.frees(), numbers[1:] + numbers[:1])

    def test_a_long_chain_by_hand(self):
        # 6, 5 die at once; 4 is put aside; then, within one thing, 4 alone, and 3 is put aside; and so on.
        self.world = World(nesting=2)
        self.chain(7)
        self.world.forget("a")
        self.assertEqual(self.frees(), [5, 6, 4, 3, 2, 1, 0])

    def test_a_long_chain_with_nesting_3_by_hand(self):
        self.world = World(nesting=3)
        self.chain(8)
        self.world.forget("a")
        self.assertEqual(self.frees(), [5, 6, 7, 3, 4, 1, 2, 0])

    def test_the_one_that_was_put_aside_last_dies_first(self):
        self.world = World(nesting=2)
        for name in "abcd":
            self.world.make(name, "row")
        self.world.make("e", "row", holding=("a", "b", "c", "d"))
        self.world.make("f", "row", holding=("e",))
        for name in "abcde":
            self.world.forget(name)
        self.world.forget("f")
        # They are put aside as d, c, b, a.
        self.assertEqual(self.frees(), [4, 5, 0, 1, 2, 3])

    def test_what_is_put_aside_again_dies_before_what_was_put_aside_ahead(self):
        self.world = World(nesting=2)
        self.world.make("x", "row")
        self.world.make("a", "row", holding=("x",))
        self.world.make("b", "row")
        self.world.make("e", "row", holding=("a", "b"))
        self.world.make("f", "row", holding=("e",))
        for name in "xabe":
            self.world.forget(name)
        self.world.forget("f")
        # b, then a are put aside; a dies within one thing, within it x would be too deep.
        self.assertEqual(self.frees(), [3, 4, 1, 0, 2])

    def test_leaves_and_weak_things_are_not_put_aside_nor_counted(self):
        self.world = World(nesting=2)
        self.world.make("l", "leaf")
        self.world.make("t", "leaf")
        self.world.weaken("w", "t")
        self.world.make("a", "row", holding=("l", "w"))
        self.world.make("b", "row", holding=("a",))
        for name in "lwa":
            self.world.forget(name)
        self.world.forget("b")
        self.assertEqual(self.frees(), [2, 0, 3, 4])

    def test_leaves_that_forget_one_another_nest_as_deep_as_they_like(self):
        self.world = World(nesting=2)
        for at in range(3000):
            self.world.make(name_of(at), "leaf", stepping=(("forget", name_of(at + 1)),))
        self.assertEqual(self.world.forget(name_of(0)), 3000)
        events = past(self.world)
        self.assertEqual(events[:3000], [("last", number) for number in range(3000)])
        self.assertEqual(events[3000:], [("free", number) for number in reversed(range(3000))])

    def test_weak_things_that_forget_one_anothers_targets_nest_as_deep_as_they_like(self):
        self.world = World(nesting=2)
        for at in range(1000):
            self.world.make(name_of(at), "leaf")
            self.world.weaken("w" + name_of(at)[1:], name_of(at), stepping=(("forget", name_of(at + 1)),))
        self.assertEqual(self.world.forget(name_of(0)), 1000)
        self.assertEqual(past(self.world)[:1000], [("call", 2 * at + 1) for at in range(1000)])

    def test_rows_that_forget_one_another_are_put_aside(self):
        self.world = World(nesting=2)
        for name, steps in (("a", (("forget", "b"),)), ("b", (("forget", "c"),)), ("c", (("forget", "d"),)), ("d", ())):
            self.world.make(name, "row", stepping=steps)
        self.world.forget("a")
        self.assertEqual(past(self.world), [
            ("last", 0), ("last", 1), ("free", 1), ("free", 0), ("last", 2), ("free", 2), ("free", 3),
        ])

    def test_a_leaf_round_rows_does_not_hold_their_turn_up(self):
        self.world = World(nesting=2)
        self.chain(3)
        self.world.make("l", "leaf", stepping=(("forget", "a"), ("forget", "b")))
        self.world.make("b", "leaf")
        self.world.forget("l")
        self.assertEqual(past(self.world), [
            ("last", 3), ("free", 1), ("free", 2), ("free", 0), ("free", 4), ("free", 3),
        ])

    def test_what_was_put_aside_may_rise(self):
        self.world = World(nesting=2)
        self.world.make("x", "row", stepping=(("save", "x"),))
        self.world.make("a", "row", holding=("x",))
        self.world.make("b", "row", holding=("a",))
        self.world.forget("x")
        self.world.forget("a")
        self.assertEqual(self.world.forget("b"), 2)
        self.assertEqual(past(self.world), [("free", 1), ("free", 2), ("last", 0)])
        self.assertEqual((called(self.world), place_of(self.world, 0)), ([("x", 0)], 0))

    def test_behind_what_rises_others_die_that_were_put_aside(self):
        self.world = World(nesting=2)
        self.chain(3)
        self.world.make("o", "row", stepping=(("forget", "a"), ("save", "o")))
        self.world.forget("o")
        # Within o only one row may die; 1 is put aside, and dies when o lives on, 0 within it behind that.
        self.assertEqual(past(self.world), [("last", 3), ("free", 2), ("free", 1), ("free", 0)])
        self.assertEqual(called(self.world), [("o", 3)])

    def test_what_is_put_aside_is_tracked_no_more(self):
        self.world = World(nesting=2)
        ring = self.ring()
        self.world.make("x", "row", stepping=(("fail",),))
        self.world.make("a", "row", holding=("x",))
        self.world.make("c", "leaf", stepping=(("collect",),))
        self.world.make("b", "row", holding=("c", "a"))
        for name in "xac":
            self.world.forget(name)
        self.world.forget("b")
        # While x is put aside, c collects: it finds the ring alone.
        self.assertEqual(past(self.world), [
            ("free", 2), ("last", 3), ("free", ring), ("free", 3), ("free", 4), ("last", 1), ("failed", 1), ("free", 1),
        ])
        self.assertEqual(tours(self.world)[2], (1, 1))

    def test_weak_things_keep_a_target_that_is_put_aside(self):
        self.world = World(nesting=2)
        self.world.make("x", "row")
        weak = self.world.weaken("w", "x", stepping=(("fail",),))
        self.world.make("a", "row", holding=("x",))
        self.world.make("b", "row", holding=("a",))
        self.world.forget("x")
        self.world.forget("a")
        self.world.forget("b")
        self.assertEqual(past(self.world), [
            ("free", 2), ("free", 3), ("call", weak), ("failed", weak), ("free", 0),
        ])

    def test_a_very_long_chain(self):
        for nesting in (2, 7, 50):
            self.world = World(nesting=nesting)
            self.world.switch(False)
            numbers = self.chain(2000)
            self.assertEqual(self.world.forget("a"), 2000)
            # The first nesting ones die at once, then within one thing always one less.
            expected = numbers[-nesting:]
            left = numbers[:-nesting]
            while left:
                expected += left[-(nesting - 1):]
                left = left[:-(nesting - 1)]
            self.assertEqual(self.frees(), expected)
            self.assertEqual((len(self.world), self.world.heap.blocks.live()), (0, []))


class Forms(Worlds):
    def test_forms_stay_through_all(self):
        self.world.make("a", "fixed", stepping=(("save", "a"),))
        self.world.forget("a")
        self.assertEqual(form_of(self.world, 0), "fixed")


if __name__ == "__main__":
    unittest.main()
