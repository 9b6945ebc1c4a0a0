"""Collections: what they look at, keep, ask and break up (6.1 to 6.4), when they come (6.5), freezing (6.6)."""

import copy
import unittest

from helping import FAR_OFF, NO_WHOLE_NUMBERS, Refusing, block_of, seen_world
from pyheap.errors import NoNumber
from pyheap.watching import (
    alive, called, count_of, counters, listed, past, place_of, slots_of, target_of, tours, was_asked, watchers_of,
)
from pyheap.world import World

NO_TRUTHS = tuple(thing for thing in NO_WHOLE_NUMBERS if not isinstance(thing, bool)) + (0, 1, -1, 2, 10 ** 30)


class Worlds(Refusing):
    def setUp(self):
        self.world = World()

    def make_ring(self, *names, stepping=()):
        """Rows of one slot of which each holds the next one, the last one the first; told are their numbers."""
        numbers = [self.world.make(name, "row", holding=(None,), stepping=stepping) for name in names]
        for at, name in enumerate(names):
            self.world.put(name, 0, names[(at + 1) % len(names)])
        return numbers

    def lose_ring(self, *names, stepping=()):
        """A ring of which the names are forgotten."""
        numbers = self.make_ring(*names, stepping=stepping)
        for name in names:
            self.world.forget(name)
        return numbers

    def lists(self):
        return [listed(self.world, place) for place in range(4)]

    def assert_world_refuses(self, refusal, word, *things):
        before = copy.deepcopy(seen_world(self.world))
        self.assert_refused(refusal, getattr(self.world, word), *things)
        self.assertEqual(seen_world(self.world), before)


class Found(Worlds):
    def test_nothing_in_a_new_world(self):
        self.assertEqual([self.world.collect(upto) for upto in (0, 1, 2)], [0, 0, 0])

    def test_rings(self):
        self.lose_ring("a")
        self.lose_ring("b", "c", "d")
        self.assertEqual((self.world.collect(), len(self.world)), (4, 0))

    def test_what_hangs_on_a_ring(self):
        self.make_ring("a")
        self.world.make("l", "leaf")
        self.world.make("b", "row", holding=("l", "a"))
        self.world.make("c", "fixed", holding=("b", "b"))
        self.world.make("d", "row", holding=(None,))
        self.world.put("d", 0, "d")
        self.world.make("e", "fixed", holding=("c", "d"))
        self.world.put("a", 0, "e")
        for name in "abcdel":
            self.world.forget(name)
        # The leaf is not tracked, so it is not found, but it is freed.
        self.assertEqual((self.world.collect(0), len(self.world)), (5, 0))

    def test_what_a_name_leads_to_is_kept(self):
        self.make_ring("a", "b", "c")
        self.world.forget("a")
        self.world.forget("c")
        self.assertEqual((self.world.collect(), len(self.world)), (0, 3))
        self.world.forget("b")
        self.assertEqual((self.world.collect(), len(self.world)), (3, 0))

    def test_what_an_older_thing_leads_to_is_kept(self):
        self.world.make("a", "row", holding=(None, None))
        self.world.collect(0)
        self.make_ring("b")
        self.world.put("a", 0, "b")
        self.world.forget("b")
        self.assertEqual((self.world.collect(0), self.lists()), (0, [[], [0, 1], [], []]))
        self.world.put("a", 1, "a")
        self.world.forget("a")
        self.assertEqual((self.world.collect(0), self.world.collect(1), len(self.world)), (0, 2, 0))

    def test_an_older_lost_thing_keeps_what_it_holds(self):
        self.make_ring("a", "b")
        self.world.collect(1)
        self.world.make("c", "row", holding=(None,))
        self.world.put("c", 0, "c")
        self.world.make("d", "row", holding=("c", None))
        self.world.put("d", 1, "d")
        self.world.put("a", 0, "d")
        self.world.put("d", 1, "a")
        for name in "abcd":
            self.world.forget(name)
        self.assertEqual(alive(self.world), [0, 2, 3])
        self.assertEqual([self.world.collect(0), self.world.collect(1), self.world.collect(2)], [0, 0, 3])

    def test_an_untracked_fixed_thing_keeps_nothing_that_is_lost(self):
        self.world.make("l", "leaf")
        self.world.make("f", "fixed", holding=("l",))
        self.world.collect(0)
        self.assertEqual(place_of(self.world, 1), None)
        self.world.make("r", "row", holding=("f", None))
        self.world.put("r", 1, "r")
        for name in "lfr":
            self.world.forget(name)
        self.assertEqual((self.world.collect(), len(self.world)), (1, 0))

    def test_weak_things_hold_nothing(self):
        self.make_ring("a")
        self.world.weaken("w", "a")
        self.world.forget("a")
        self.assertEqual((self.world.collect(), alive(self.world), target_of(self.world, 1)), (1, [1], None))

    def test_lost_weak_things_are_found(self):
        self.world.make("t", "leaf")
        self.world.weaken("w", "t")
        self.make_ring("a")
        self.world.make("b", "row", holding=("w", "a"))
        self.world.put("a", 0, "b")
        for name in "wab":
            self.world.forget(name)
        self.assertEqual((self.world.collect(), alive(self.world), watchers_of(self.world, 0)), (3, [0], []))

    def test_upto(self):
        for upto in (0, 1, 2):
            self.world = World()
            for place in (2, 1, 0):
                self.make_ring("abc"[place])
                if place:
                    self.world.collect(place - 1)
            for name in "abc":
                self.world.forget(name)
            self.assertEqual(self.lists(), [[2], [1], [0], []])
            self.assertEqual(self.world.collect(upto), upto + 1)
            self.assertEqual(alive(self.world), list(range(2 - upto)))

    def test_no_lists(self):
        for at, upto in enumerate((*FAR_OFF, *NO_WHOLE_NUMBERS, -1, 3)):
            with self.subTest(at=at):
                self.assert_world_refuses(NoNumber, "collect", upto)

    def test_all_lists_by_default(self):
        self.make_ring("a")
        self.world.collect(1)
        self.world.forget("a")
        self.assertEqual(self.world.collect(), 1)
        self.assertEqual(self.world.collect(upto=1), 0)
        self.assertEqual(self.world.deeds()[-2:], [("collect", 2), ("collect", 1)])


class Kept(Worlds):
    def ages(self):
        """A world with rows 0, 1 in list 2, rows 2, 3 in list 1, and rows 4, 5 in list 0, each with a name."""
        for name in "ab":
            self.world.make(name, "row", holding=(None, None))
        self.world.collect(1)
        for name in "cd":
            self.world.make(name, "row", holding=(None, None))
        self.world.collect(0)
        for name in "ef":
            self.world.make(name, "row", holding=(None, None))
        self.assertEqual(self.lists(), [[4, 5], [2, 3], [0, 1], []])

    def test_what_is_kept_goes_to_the_end_of_the_next_older_list(self):
        self.ages()
        self.world.collect(0)
        self.assertEqual(self.lists(), [[], [2, 3, 4, 5], [0, 1], []])

    def test_up_to_list_1_that_list_comes_first(self):
        self.ages()
        self.world.collect(1)
        self.assertEqual(self.lists(), [[], [], [0, 1, 2, 3, 4, 5], []])

    def test_up_to_list_2_that_list_comes_first_then_0_then_1(self):
        self.ages()
        self.world.collect(2)
        self.assertEqual(self.lists(), [[], [], [0, 1, 4, 5, 2, 3], []])

    def test_what_others_hold_alone_is_kept_when_these_were_taken_off_the_line(self):
        self.ages()
        self.world.put("f", 0, "c")
        self.world.put("f", 1, "a")
        self.world.put("b", 0, "e")
        for name in "ace":
            self.world.forget(name)
        self.world.collect(2)
        # The line is 0 1 4 5 2 3: 0 is laid aside; 1 gives 4, still in the line, its mark; 5 gives 0 a mark, which
        # goes to the end, and then 2 one.
        self.assertEqual(listed(self.world, 2), [1, 4, 5, 2, 3, 0])

    def test_slots_give_their_marks_from_the_last_one_to_the_first(self):
        for name in "abc":
            self.world.make(name, "row")
        self.world.make("d", "row", holding=("a", "b", "c"))
        for name in "abc":
            self.world.forget(name)
        self.world.collect(0)
        self.assertEqual(listed(self.world, 1), [3, 2, 1, 0])

    def test_list_2_is_in_the_order_of_what_was_kept_then(self):
        for name in "abc":
            self.world.make(name, "row")
        self.world.make("d", "row", holding=("b", "a"))
        self.world.forget("a")
        self.world.forget("b")
        self.world.collect(2)
        self.assertEqual(listed(self.world, 2), [2, 3, 0, 1])
        self.world.collect(2)
        self.assertEqual(listed(self.world, 2), [2, 3, 0, 1])

    def test_fixed_things_that_hold_nothing_tracked_are_tracked_no_more(self):
        self.world.make("l", "leaf")
        self.world.make("r", "row")
        self.world.weaken("w", "l")
        holdings = ((), (None, None), ("l", None), ("r",), ("w", "l"), (None, "l", "r"))
        for at, holding in enumerate(holdings):
            self.world.make("abcdef"[at], "fixed", holding=holding)
        self.world.collect(0)
        self.assertEqual(listed(self.world, 1), [1, 2, 6, 7, 8])
        self.assertEqual([place_of(self.world, number) for number in (3, 4, 5)], [None] * 3)

    def test_they_are_looked_at_in_order(self):
        # The one that came first holds nothing, the second the first, and so on: each is untracked by then.
        self.world.make("a", "fixed")
        for _ in range(3):
            self.world.make("a", "fixed", holding=("a",))
        self.world.let("b", "a")
        self.world.collect(0)
        # Only the last one has a name, so they are kept from it to the first, and only the first is untracked.
        self.assertEqual(listed(self.world, 1), [3, 2, 1])
        self.world.collect(1)
        self.assertEqual(listed(self.world, 2), [3, 2])
        self.world.collect(2)
        self.world.collect(2)
        self.assertEqual(listed(self.world, 2), [])

    def test_with_names_they_are_all_untracked_at_once(self):
        self.world.make("a", "fixed")
        for at in range(3):
            self.world.make("bcd"[at], "fixed", holding=("abc"[at],))
        self.world.collect(0)
        self.assertEqual(self.lists(), [[], [], [], []])

    def test_a_fixed_thing_that_holds_an_older_tracked_one_stays(self):
        self.world.make("r", "row")
        self.world.make("f", "fixed", holding=("r",))
        self.world.collect(1)
        self.world.make("g", "fixed", holding=("f",))
        self.world.collect(0)
        self.assertEqual(self.lists(), [[], [2], [0, 1], []])

    def test_only_what_was_looked_at_is_untracked(self):
        self.world.make("f", "fixed")
        self.world.freeze()
        self.world.collect()
        self.assertEqual(self.lists(), [[], [], [], [0]])


class WeakThings(Worlds):
    def test_those_that_are_not_lost_do_their_steps(self):
        self.make_ring("a")
        self.world.weaken("w", "a", stepping=(("fail",),))
        self.world.forget("a")
        self.assertEqual(self.world.collect(), 1)
        self.assertEqual(past(self.world), [("call", 1), ("failed", 1), ("free", 0)])

    def test_of_the_first_lost_thing_first_and_the_one_that_came_last_first(self):
        self.make_ring("a", "b")
        for at, target in enumerate("abab"):
            self.world.weaken("wxyz"[at], target, stepping=(("forget", "q"),))
        self.world.forget("a")
        self.world.forget("b")
        self.world.collect()
        self.assertEqual(past(self.world)[:4], [("call", 4), ("call", 2), ("call", 5), ("call", 3)])

    def lose_risen(self):
        """The thing called a, which is watched, rises, by which it alone is in list 0, and is lost in a ring."""
        self.world.forget("a")
        self.world.put("a", 0, "a")
        self.world.forget("a")

    def test_one_in_an_older_list(self):
        for upto in (0, 1):
            self.world = World()
            self.world.make("a", "row", holding=(None,), stepping=(("save", "a"),))
            self.world.weaken("w", "a", stepping=(("fail",),))
            self.world.collect(upto)
            self.lose_risen()
            self.assertEqual((listed(self.world, 0), listed(self.world, upto + 1)), ([0], [1]))
            self.assertEqual(self.world.collect(0), 1)
            self.assertEqual(past(self.world), [("last", 0), ("call", 1), ("failed", 1), ("free", 0)])

    def test_a_frozen_one(self):
        self.world.make("a", "row", holding=(None,), stepping=(("save", "a"),))
        self.world.weaken("w", "a", stepping=(("forget", "w"),))
        self.world.freeze()
        self.lose_risen()
        self.assertEqual((listed(self.world, 0), listed(self.world, 3)), ([0], [1]))
        self.assertEqual(self.world.collect(), 1)
        self.assertEqual(past(self.world), [("last", 0), ("call", 1), ("free", 1), ("free", 0)])

    def test_lost_ones_lose_their_targets_and_do_no_steps(self):
        self.make_ring("a")
        self.world.weaken("w", "a", stepping=(("fail",),))
        self.world.put("a", 0, "w")
        self.world.make("b", "row", holding=("a", "w"))
        self.world.make("c", "row", holding=(None, "b"))
        self.world.put("c", 0, "c")
        for name in "awbc":
            self.world.forget(name)
        self.assertEqual(self.world.collect(), 4)
        self.assertNotIn(("call", 1), past(self.world))

    def test_a_lost_one_loses_a_target_that_is_not_lost(self):
        self.world.make("t", "leaf")
        self.world.weaken("w", "t", stepping=(("fail",),))
        self.world.make("r", "row", holding=("w", None), stepping=(("save", "r"),))
        self.world.put("r", 1, "r")
        self.world.forget("w")
        self.world.forget("r")
        self.assertEqual(self.world.collect(), 0)
        self.assertEqual((target_of(self.world, 1), watchers_of(self.world, 0)), (None, []))
        self.assertEqual(past(self.world), [("last", 2)])
        self.world.forget("t")
        self.assertEqual(past(self.world), [("last", 2), ("free", 0)])

    def test_a_target_that_rises_was_lost_all_the_same(self):
        self.make_ring("a", stepping=(("save", "a"),))
        self.world.weaken("w", "a")
        self.world.forget("a")
        self.assertEqual(self.world.collect(), 0)
        self.assertEqual((target_of(self.world, 1), called(self.world)), (None, [("a", 0), ("w", 1)]))

    def test_all_are_held_before_the_first_does_its_steps(self):
        self.make_ring("a")
        self.world.weaken("v", "a", stepping=(("forget", "w"),))
        self.world.weaken("w", "a", stepping=(("forget", "v"),))
        self.world.forget("a")
        self.world.collect()
        self.assertEqual(past(self.world), [("call", 2), ("call", 1), ("free", 2), ("free", 1), ("free", 0)])

    def test_those_without_steps_are_not_held(self):
        self.make_ring("a")
        self.world.weaken("v", "a")
        self.world.weaken("w", "a", stepping=(("forget", "v"),))
        self.world.forget("a")
        self.world.collect()
        self.assertEqual(past(self.world), [("call", 2), ("free", 1), ("free", 0)])


class AskedAndRisen(Worlds):
    def test_all_are_asked_in_order_before_the_first_is_broken_up(self):
        self.lose_ring("a", "b", stepping=(("fail",),))
        self.assertEqual(self.world.collect(), 2)
        self.assertEqual(past(self.world), [
            ("last", 0), ("failed", 0), ("last", 1), ("failed", 1), ("free", 1), ("free", 0),
        ])

    def test_weak_things_come_first(self):
        self.make_ring("a", stepping=(("fail",),))
        self.world.weaken("w", "a", stepping=(("fail",),))
        self.world.forget("a")
        self.world.collect()
        self.assertEqual(past(self.world), [
            ("call", 1), ("failed", 1), ("last", 0), ("failed", 0), ("free", 0),
        ])

    def test_what_is_saved_rises_with_all_that_it_leads_to(self):
        numbers = self.make_ring("a", "b", "c")
        self.world.make("d", "row", holding=("a", None), stepping=(("save", "d"),))
        self.world.put("d", 1, "d")
        for name in "abcd":
            self.world.forget(name)
        self.assertEqual(self.world.collect(0), 0)
        self.assertEqual((alive(self.world), called(self.world)), ([*numbers, 3], [("d", 3)]))

    def test_what_rises_goes_in_order_to_the_end_of_the_next_older_list(self):
        for upto, place in ((0, 1), (1, 2), (2, 2)):
            self.world = World()
            self.world.make("o", "row")
            self.lose_ring("a", "b", stepping=(("save", "s"),))
            self.world.make("p", "row")
            self.assertEqual(self.world.collect(upto), 0)
            # Both are saved by one name, so the last one has it, and the first is led to from it.
            self.assertEqual((listed(self.world, place), called(self.world)[-1]), ([0, 3, 2, 1], ("s", 2)))

    def test_a_part_rises_and_a_part_is_found(self):
        self.lose_ring("a", "b")
        self.lose_ring("c", stepping=(("save", "c"),))
        self.assertEqual(self.world.collect(), 2)
        self.assertEqual((alive(self.world), past(self.world)), ([2], [("last", 2), ("free", 1), ("free", 0)]))

    def test_what_was_asked_is_not_asked_again(self):
        self.lose_ring("a", stepping=(("save", "a"),))
        self.world.collect()
        self.world.forget("a")
        self.assertEqual(self.world.collect(), 1)
        self.assertEqual(past(self.world), [("last", 0), ("free", 0)])

    def test_it_may_die_when_it_is_let_go(self):
        self.lose_ring("a", stepping=(("clear", 0),))
        self.assertEqual(self.world.collect(), 0)
        self.assertEqual((past(self.world), len(self.world)), ([("last", 0), ("free", 0)], 0))

    def test_what_died_meanwhile_is_asked_no_more(self):
        # a lets b go, which is asked in its death, lets a go, and dies; a dies when it is let go.
        self.lose_ring("a", "b", stepping=(("clear", 0),))
        self.assertEqual(self.world.collect(), 0)
        self.assertEqual(past(self.world), [("last", 0), ("last", 1), ("free", 1), ("free", 0)])

    def test_what_died_and_rose_meanwhile_is_lost_no_more(self):
        # a lets b go, which is asked in its death and saves itself: it is tracked in list 0 as any such thing.
        self.world.make("a", "row", holding=(None,), stepping=(("clear", 0),))
        self.world.make("b", "row", holding=("a",), stepping=(("save", "b"),))
        self.world.put("a", 0, "b")
        self.world.forget("a")
        self.world.forget("b")
        self.assertEqual(self.world.collect(), 0)
        self.assertEqual((past(self.world), called(self.world)), ([("last", 0), ("last", 1)], [("b", 1)]))
        # a is held by b alone: it has risen.
        self.assertEqual(self.lists(), [[1], [], [0], []])

    def test_what_a_lost_thing_forgets_dies(self):
        self.world.make("x", "row")
        self.lose_ring("a", stepping=(("forget", "x"), ("save", "a")))
        self.assertEqual(self.world.collect(), 0)
        self.assertEqual((past(self.world), alive(self.world)), ([("last", 1), ("free", 0)], [1]))

    def test_fixed_things_are_asked_too_but_not_weak_ones(self):
        self.world.make("r", "row", holding=(None, None))
        self.world.make("f", "fixed", holding=("r",), stepping=(("fail",),))
        self.world.weaken("w", "f", stepping=(("fail",),))
        self.world.put("r", 0, "f")
        self.world.put("r", 1, "w")
        for name in "rfw":
            self.world.forget(name)
        self.assertEqual(self.world.collect(), 3)
        self.assertEqual(past(self.world), [("last", 1), ("failed", 1), ("free", 2), ("free", 1), ("free", 0)])


class BrokenUp(Worlds):
    def test_a_ring_of_rows(self):
        # 0 is held, its slot lets 1 go, which lets 2 go, which lets 0 go; 0 dies when it is let go.
        self.lose_ring("a", "b", "c")
        self.assertEqual(self.world.collect(), 3)
        self.assertEqual(past(self.world), [("free", 2), ("free", 1), ("free", 0)])

    def test_slots_from_the_last_one_to_the_first(self):
        for name in "lmn":
            self.world.make(name, "leaf")
        self.world.make("r", "row", holding=("l", None, "m", "n"))
        self.world.put("r", 1, "r")
        for name in "lmnr":
            self.world.forget(name)
        self.world.collect()
        self.assertEqual(past(self.world), [("free", 2), ("free", 1), ("free", 0), ("free", 3)])

    def test_what_lives_on_goes_to_the_next_older_list_and_dies_later(self):
        # The fixed thing cannot be emptied, so it lives till the row lets it go.
        self.world.make("r", "row", holding=(None,))
        self.world.make("f", "fixed", holding=("r",))
        self.world.put("r", 0, "f")
        self.world.let("k", "f")
        for name in "rfk":
            self.world.forget(name)
        self.assertEqual(self.world.collect(0), 2)
        self.assertEqual((past(self.world), self.lists()), ([("free", 1), ("free", 0)], [[], [], [], []]))

    def test_a_fixed_thing_that_comes_first_lives_on_till_its_row_is_emptied(self):
        self.world.make("r", "row", holding=(None,))
        self.world.make("f", "fixed", holding=("r",))
        self.world.put("r", 0, "f")
        # Kept in the order f, r, since only f has a name.
        self.world.forget("r")
        self.world.collect(0)
        self.assertEqual(listed(self.world, 1), [1, 0])
        self.world.forget("f")
        self.assertEqual(self.world.collect(), 2)
        self.assertEqual(past(self.world), [("free", 1), ("free", 0)])

    def test_a_leaf_that_saves_itself_out_of_a_ring_lives(self):
        self.world.make("l", "leaf", stepping=(("save", "l"),))
        self.world.make("r", "row", holding=("l", None))
        self.world.put("r", 1, "r")
        self.world.forget("l")
        self.world.forget("r")
        self.assertEqual(self.world.collect(), 1)
        self.assertEqual((past(self.world), called(self.world)), ([("last", 0), ("free", 1)], [("l", 0)]))

    def test_an_untracked_fixed_thing_that_saves_itself_is_tracked_again(self):
        self.world.make("f", "fixed", stepping=(("save", "f"),))
        self.world.collect(0)
        self.world.make("r", "row", holding=("f", None))
        self.world.put("r", 1, "r")
        self.world.forget("f")
        self.world.forget("r")
        self.assertEqual(self.world.collect(), 1)
        self.assertEqual((past(self.world), self.lists()), ([("last", 0), ("free", 1)], [[0], [], [], []]))

    def test_a_long_ring_nests(self):
        self.world = World(nesting=3)
        self.lose_ring(*"abcdefgh")
        self.assertEqual(self.world.collect(), 8)
        # 1, 2, 3 die within one another, 4 is put aside; then by twos; 0 is let go by 7, and dies last.
        self.assertEqual(past(self.world), [("free", number) for number in (3, 2, 1, 5, 4, 7, 6, 0)])


class PutAside(Worlds):
    """Collections within deaths, so that what is lost is put aside."""

    def test_what_is_put_aside_is_not_there_for_the_collection(self):
        self.world = World(nesting=2)
        ring = self.lose_ring("a", "b", "c")
        self.world.make("x", "row", stepping=(("collect",),))
        self.world.make("y", "row", holding=("x",))
        self.world.forget("x")
        self.world.forget("y")
        # y and x are dying round it. 0 is emptied: 1 is put aside, and holds 2 still, and this 0, which lives on. 1 is
        # not there. 2 is emptied: 0 is put aside, and 2 lives on. Then 0 dies, then 1, which lets 2 go.
        self.assertEqual((tours(self.world)[2], ring), ((1, 3), [0, 1, 2]))
        self.assertEqual(past(self.world), [
            ("last", 3), ("free", 3), ("free", 4), ("free", 0), ("free", 1), ("free", 2),
        ])

    def test_what_lives_on_is_kept_by_a_collection_that_comes_before_it_dies(self):
        self.world = World(nesting=2)
        self.lose_ring(*"abcdefgh")
        self.world.make("x", "row", stepping=(("collect",), ("collect",)))
        self.world.make("y", "row", holding=("x",))
        self.world.forget("x")
        self.world.forget("y")
        # 1, 3, 5 and 7 are put aside; 0, 2, 4 and 6, which these hold, live on in list 2, and with x are kept there.
        self.assertEqual((tours(self.world)[2], len(self.world)), ((2, 8), 0))
        self.world.collect(1)
        self.world.set_bounds(1, 999, 0)
        for name in "ab":
            self.world.make(name, "row")
        # So list 2 is not due: nothing came through list 1 since, and a quarter of 5 is 1.
        self.assertEqual(tours(self.world), [(1, 0), (1, 0), (2, 8)])

    def test_a_lost_thing_put_aside_when_it_is_let_go_is_not_sifted_again(self):
        self.world = World(nesting=2)
        self.lose_ring("a", stepping=(("clear", 0),))
        self.world.make("x", "row", stepping=(("collect",),))
        self.world.make("y", "row", holding=("x",))
        self.world.forget("x")
        self.world.forget("y")
        # The ring lets itself go while it is asked, is put aside, and so nothing is found.
        self.assertEqual(tours(self.world)[2], (1, 0))
        self.assertEqual(past(self.world), [
            ("last", 1), ("last", 0), ("free", 1), ("free", 2), ("free", 0),
        ])

    def test_what_it_holds_has_risen_then(self):
        self.world = World(nesting=2)
        self.world.make("b", "row", holding=(None,))
        self.world.put("b", 0, "b")
        self.world.make("a", "row", holding=(None, "b"), stepping=(("clear", 0),))
        self.world.put("a", 0, "a")
        self.world.forget("b")
        self.world.forget("a")
        self.world.make("x", "row", stepping=(("collect",),))
        self.world.make("y", "row", holding=("x",))
        self.world.forget("x")
        self.world.forget("y")
        # a is put aside and holds b still, so b is kept by the second sifting, and is lost anew behind it.
        self.assertEqual(tours(self.world)[2], (1, 0))
        self.assertEqual((alive(self.world), listed(self.world, 2), count_of(self.world, 0)), ([0], [0], 1))
        self.assertEqual(self.world.collect(), 1)


class Counters(Worlds):
    def test_things_that_are_tracked_count(self):
        self.world.make("l", "leaf")
        self.assertEqual(counters(self.world), (0, 0, 0))
        self.world.make("r", "row")
        self.world.make("f", "fixed")
        self.world.weaken("w", "l")
        self.assertEqual(counters(self.world), (3, 0, 0))

    def test_each_collection(self):
        self.world.make("r", "row")
        self.world.collect(0)
        self.assertEqual(counters(self.world), (0, 1, 0))
        self.world.make("s", "row")
        self.world.collect(0)
        self.assertEqual(counters(self.world), (0, 2, 0))
        self.world.collect(1)
        self.assertEqual(counters(self.world), (0, 0, 1))
        self.world.collect(0)
        self.world.collect(1)
        self.world.collect(0)
        self.assertEqual(counters(self.world), (0, 1, 2))
        self.world.make("t", "row")
        self.world.collect(2)
        self.assertEqual(counters(self.world), (0, 0, 0))

    def test_tours(self):
        self.lose_ring("a", "b")
        self.world.collect(0)
        self.world.collect(0)
        self.lose_ring("a")
        self.world.collect(1)
        self.world.collect()
        self.assertEqual(tours(self.world), [(2, 2), (1, 1), (1, 0)])


class ByThemselves(Worlds):
    def make_many(self, many):
        """So many rows, all of them held by one another and a name."""
        for _ in range(many):
            before = ("a",) if called(self.world) else ()
            self.world.make("a", "row", holding=before)

    def test_the_first_bound_is_700(self):
        self.make_many(700)
        self.assertEqual((tours(self.world), counters(self.world)), ([(0, 0)] * 3, (700, 0, 0)))
        self.make_many(1)
        self.assertEqual((tours(self.world), counters(self.world)), ([(1, 0), (0, 0), (0, 0)], (0, 1, 0)))
        self.assertEqual((listed(self.world, 0), len(listed(self.world, 1))), ([700], 700))

    def test_the_second_and_the_third_bound_are_10(self):
        for upto in (0, 1):
            for many in (10, 11):
                self.world = World()
                for _ in range(many):
                    self.world.collect(upto)
                self.make_many(701)
                done = [upto, upto + 1] if many == 11 else [upto, 0]
                self.assertEqual(
                    [told[0] for told in tours(self.world)],
                    [many * (place == done[0]) + (place == done[1]) for place in range(3)],
                )

    def test_the_thing_comes_behind_the_collection(self):
        self.world.make("k", "row", holding=(None,))
        self.lose_ring("r")
        self.world.set_bounds(2, 10, 10)
        self.world.make("a", "row", holding=(None,))
        self.assertEqual((past(self.world), self.lists()), ([("free", 1)], [[2], [0], [], []]))
        # Its block is the one that came back.
        self.assertEqual(block_of(self.world, 2), (0, 0, 1))

    def test_the_second_and_the_third_bound(self):
        self.world.set_bounds(1, 1, 1)
        told = []
        for _ in range(18):
            before = [done for done, found in tours(self.world)]
            self.make_many(1)
            after = [done for done, found in tours(self.world)]
            told.append([place for place in range(3) if after[place] > before[place]])
        self.assertEqual(told[::2], [[]] * 9)
        # Each second thing brings a collection, of these each third one is up to list 1, and behind two of these
        # one is up to list 2.
        self.assertEqual(told[1::2], [[0], [0], [1], [0], [0], [1], [2], [0], [0]])
        self.assertEqual(counters(self.world), (0, 2, 0))

    def test_of_list_2_only_if_it_is_due(self):
        # 40 things were kept by the last collection of all, so 10 must have come through list 1 since.
        self.make_many(40)
        self.world.collect()
        self.world.set_bounds(1, 999, 1)
        for _ in range(2):
            self.world.collect(1)
        self.assertEqual(counters(self.world), (0, 0, 2))
        self.make_many(2)
        self.assertEqual((tours(self.world), counters(self.world)), ([(1, 0), (2, 0), (1, 0)], (0, 1, 2)))

    def test_it_is_due_by_a_quarter(self):
        for many, is_due in ((9, False), (10, True), (11, True)):
            self.world = World()
            self.make_many(43)
            self.world.collect()
            self.world.set_bounds(999, 999, 1)
            self.make_many(many)
            self.world.collect(1)
            self.world.collect(1)
            self.world.set_bounds(1, 999, 1)
            self.make_many(2)
            self.assertEqual(tours(self.world)[2][0], 1 + is_due, many)
            self.assertEqual(tours(self.world)[0][0], 1 - is_due, many)

    def test_else_the_next_younger_one_of_those_that_are_over(self):
        self.make_many(40)
        self.world.collect()
        for _ in range(2):
            self.world.collect(1)
        for _ in range(2):
            self.world.collect(0)
        self.world.set_bounds(1, 1, 1)
        self.make_many(2)
        self.assertEqual((tours(self.world), counters(self.world)), ([(2, 0), (3, 0), (1, 0)], (0, 0, 3)))

    def test_at_first_it_is_due(self):
        self.world.collect(1)
        self.world.set_bounds(1, 999, 0)
        self.make_many(2)
        self.assertEqual(tours(self.world), [(0, 0), (1, 0), (1, 0)])

    def test_only_what_was_left_tracked_counts(self):
        # 8 rows stay; what comes through list 1 are fixed things that are tracked no more.
        self.make_many(8)
        self.world.collect()
        for name in "bcdef":
            self.world.make(name, "fixed")
        self.world.collect(1)
        self.world.collect(1)
        self.world.set_bounds(1, 999, 1)
        self.make_many(2)
        self.assertEqual(tours(self.world)[2], (1, 0))

    def test_what_rose_does_not_count(self):
        self.make_many(8)
        self.world.collect()
        self.lose_ring("b", "c", "d", stepping=(("save", "b"),))
        self.world.collect(1)
        self.world.collect(1)
        self.assertEqual(len(listed(self.world, 2)), 11)
        self.world.set_bounds(1, 999, 1)
        self.make_many(2)
        self.assertEqual(tours(self.world)[2], (1, 0))

    def test_a_collection_of_all_lists_begins_anew(self):
        self.make_many(8)
        self.world.collect(1)
        self.world.collect()
        self.world.collect(1)
        self.world.collect(1)
        self.world.set_bounds(1, 999, 1)
        self.make_many(2)
        # 8 came through list 1, but before the last collection of all.
        self.assertEqual(tours(self.world)[2], (1, 0))

    def test_leaves_bring_none(self):
        self.world.make("a", "row")
        self.world.make("b", "row")
        self.world.set_bounds(1, 10, 10)
        self.world.make("l", "leaf")
        self.assertEqual(tours(self.world)[0], (0, 0))
        self.world.weaken("w", "l")
        self.assertEqual(tours(self.world)[0], (1, 0))

    def test_a_first_bound_of_0_brings_none(self):
        self.world.set_bounds(0, 0, 0)
        self.make_many(20)
        self.assertEqual((tours(self.world), counters(self.world)), ([(0, 0)] * 3, (20, 0, 0)))

    def test_switched_off(self):
        self.world.set_bounds(1, 0, 0)
        self.assertIs(self.world.switch(False), True)
        self.assertIs(self.world.switch(False), False)
        self.make_many(5)
        self.assertEqual((tours(self.world)[0], counters(self.world)[0]), ((0, 0), 5))
        self.assertEqual(self.world.collect(0), 0)
        self.assertIs(self.world.switch(True), False)
        self.assertIs(self.world.switch(True), True)
        self.make_many(2)
        self.assertEqual(sum(done for done, found in tours(self.world)), 2)

    def test_no_bounds(self):
        for at, thing in enumerate((*FAR_OFF, *NO_WHOLE_NUMBERS, -1, 1000)):
            with self.subTest(at=at):
                self.assert_world_refuses(NoNumber, "set_bounds", thing, 0, 0)
                self.assert_world_refuses(NoNumber, "set_bounds", 0, thing, 0)
                self.assert_world_refuses(NoNumber, "set_bounds", 0, 0, thing)
        for bounds in ((0, 0, 0), (999, 999, 999)):
            self.assertIsNone(self.world.set_bounds(*bounds))

    def test_refused_bounds_leave_the_others(self):
        self.world.set_bounds(1, 999, 999)
        self.assert_world_refuses(NoNumber, "set_bounds", 5, 5, 1000)
        self.make_many(2)
        self.assertEqual(tours(self.world)[0], (1, 0))

    def test_no_truths(self):
        for at, thing in enumerate(NO_TRUTHS):
            with self.subTest(at=at):
                self.assert_world_refuses(NoNumber, "switch", thing)


class Freezing(Worlds):
    def test_all_tracked_things_are_frozen_in_order(self):
        for upto in (1, 0):
            self.world.make("ab"[upto], "row")
            self.world.collect(upto)
        self.world.make("c", "row")
        self.world.make("l", "leaf")
        self.assertEqual(self.lists(), [[2], [1], [0], []])
        self.assertEqual(self.world.freeze(), 3)
        self.assertEqual((self.lists(), counters(self.world)), ([[], [], [], [2, 1, 0]], (0, 0, 0)))
        self.world.make("d", "row")
        self.assertEqual((self.world.freeze(), listed(self.world, 3)), (4, [2, 1, 0, 4]))

    def test_the_counters_are_0(self):
        self.world.make("a", "row")
        self.world.collect(1)
        self.world.collect(0)
        self.world.make("b", "row")
        self.assertEqual(counters(self.world), (1, 1, 1))
        self.world.freeze()
        self.assertEqual(counters(self.world), (0, 0, 0))

    def test_frozen_things_are_not_looked_at(self):
        self.lose_ring("a")
        self.world.freeze()
        self.assertEqual((self.world.collect(), len(self.world)), (0, 1))
        self.assertEqual(self.world.thaw(), 1)
        self.assertEqual((self.world.collect(1), self.world.collect(2), len(self.world)), (0, 1, 0))

    def test_they_keep_what_they_hold(self):
        self.world.make("a", "row", holding=(None, None))
        self.world.put("a", 0, "a")
        self.world.freeze()
        self.make_ring("b")
        self.world.put("a", 1, "b")
        self.world.forget("a")
        self.world.forget("b")
        self.assertEqual((self.world.collect(), self.lists()), (0, [[], [], [1], [0]]))
        self.world.thaw()
        self.assertEqual((self.world.collect(), past(self.world)), (2, [("free", 1), ("free", 0)]))

    def test_thaw_puts_them_at_the_end_of_list_2_in_order(self):
        self.world.make("a", "row")
        self.world.make("b", "row")
        self.world.freeze()
        self.world.make("c", "row")
        self.world.collect(1)
        self.world.make("d", "row")
        self.assertEqual(self.world.thaw(), 2)
        self.assertEqual(self.lists(), [[3], [], [2, 0, 1], []])
        self.assertEqual(counters(self.world), (1, 0, 1))
        self.assertEqual(self.world.thaw(), 0)

    def test_a_frozen_thing_may_die_and_rise(self):
        self.world.make("a", "row", stepping=(("save", "a"),))
        self.world.freeze()
        self.world.forget("a")
        self.assertEqual(self.lists(), [[0], [], [], []])
        self.world.freeze()
        self.assertEqual((self.world.forget("a"), self.lists()), (1, [[], [], [], []]))

    def test_in_a_new_world(self):
        self.assertEqual((self.world.freeze(), self.world.thaw()), (0, 0))

    def test_was_asked_stays(self):
        self.world.make("a", "row", stepping=(("save", "a"),))
        self.world.forget("a")
        self.world.freeze()
        self.world.thaw()
        self.assertEqual((was_asked(self.world, 0), slots_of(self.world, 0)), (True, []))


if __name__ == "__main__":
    unittest.main()
