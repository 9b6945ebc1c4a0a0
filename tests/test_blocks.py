"""Blocks, worked out by hand (2.1 to 2.5, and what 0.3 says of them)."""

import copy
import inspect
import unittest

from helping import FAR_OFF, NO_LISTS, NO_WHOLE_NUMBERS, Refusing, seen_blocks
from pyheap.blocks import Blocks
from pyheap.errors import NoBlock, NoNumber, NoSize

NO_SIZES = (-1, 10000, *FAR_OFF, *NO_WHOLE_NUMBERS)
NO_POOL_SIZES = (0, 16, 1056, 1071, 1073, 4095, 4097, 4112, -1072, *FAR_OFF, *NO_WHOLE_NUMBERS)
NO_POOL_COUNTS = (0, -1, 65, 66, *FAR_OFF, *NO_WHOLE_NUMBERS)


def small_pools(pool_count):
    """Blocks of which a pool has two blocks of kind 31, or of kind 24."""
    return Blocks(pool_bytes=1072, pool_count=pool_count)


def filled(pool_count, arena_count):
    """Small pools, in so many arenas, all of them full, of kind 31."""
    blocks = small_pools(pool_count)
    for _ in range(2 * pool_count * arena_count):
        blocks.take(512)
    return blocks


def give_all(blocks, *places):
    return [blocks.give(place) for place in places]


def give_pool(blocks, arena, pool):
    return give_all(blocks, (arena, pool, 0), (arena, pool, 1))


def take_all(blocks, *sizes):
    return [blocks.take(size) for size in sizes]


class Interface(unittest.TestCase):
    def test_methods_stand_in_the_class_itself(self):
        arguments = {
            "take": ["size"], "give": ["place"], "live": [], "size_at": ["place"], "useful_arenas": [],
            "all_arenas": [], "used_pools": ["kind"], "pool_at": ["arena", "pool"], "bytes_out": [], "__len__": [],
        }
        for name, names in arguments.items():
            with self.subTest(name):
                self.assertIn(name, vars(Blocks))
                self.assertEqual(list(inspect.signature(vars(Blocks)[name]).parameters)[1:], names)

    def test_its_numbers_are_handed_in_by_name_alone(self):
        parameters = list(inspect.signature(Blocks).parameters.values())
        told = [(parameter.name, parameter.kind, parameter.default) for parameter in parameters]
        kind = inspect.Parameter.KEYWORD_ONLY
        self.assertEqual(told, [("pool_bytes", kind, 4096), ("pool_count", kind, 16)])


class NewBlocks(Refusing):
    def test_there_is_nothing_at_first(self):
        for blocks, pool_count in ((Blocks(), 16), (small_pools(1), 1), (Blocks(pool_count=64), 64)):
            told = seen_blocks(blocks, pool_count)
            self.assertEqual((told["len"], told["live"], told["useful"], told["arenas"]), (0, [], [], []))
            self.assertEqual(told["rows"], [[]] * 32)
            self.assertEqual(set(told["pools"].values()), {None})
            self.assertEqual(told["bytes"], (0, 0, 0))

    def test_sixteen_pools_of_4096_bytes_where_nothing_else_is_said(self):
        blocks = Blocks()
        self.assertEqual(blocks.take(1), (0, 0, 0))
        self.assertEqual(blocks.pool_at(0, 0), (0, 1, 253))
        self.assertEqual(blocks.useful_arenas(), [(0, 15)])
        self.assertEqual(blocks.bytes_out(), (1, 16, 65536))

    def test_one_of_both_numbers_may_be_left_out(self):
        blocks = Blocks(pool_bytes=1072)
        blocks.take(512)
        self.assertEqual((blocks.pool_at(0, 0), blocks.bytes_out()), ((31, 1, 2), (512, 512, 16 * 1072)))
        blocks = Blocks(pool_count=3)
        blocks.take(512)
        self.assertEqual((blocks.pool_at(0, 0), blocks.bytes_out()), ((31, 1, 7), (512, 512, 3 * 4096)))

    def test_other_pool_sizes_and_counts(self):
        for pool_bytes, many in ((1072, 2), (1088, 2), (1568, 2), (1584, 3), (2080, 3), (2096, 4), (4096, 7)):
            for pool_count in (1, 2, 5, 63, 64):
                with self.subTest(pool_bytes=pool_bytes, pool_count=pool_count):
                    blocks = Blocks(pool_bytes=pool_bytes, pool_count=pool_count)
                    places = [
                        (arena, pool, block)
                        for arena in range(2) for pool in range(pool_count) for block in range(many)
                    ]
                    self.assertEqual([blocks.take(512) for _ in places], places)
                    self.assertEqual(blocks.take(512), (2, 0, 0))
                    self.assertEqual(blocks.all_arenas(), [0, 1, 2])
                    self.assertEqual(blocks.bytes_out()[2], 3 * pool_count * pool_bytes)

    def test_what_is_no_pool_size_is_refused(self):
        for at, thing in enumerate(NO_POOL_SIZES):
            with self.subTest(at=at):
                self.assert_refused(NoSize, Blocks, pool_bytes=thing)
                self.assert_refused(NoSize, Blocks, pool_bytes=thing, pool_count=1)

    def test_what_is_no_number_of_pools_is_refused(self):
        for at, thing in enumerate(NO_POOL_COUNTS):
            with self.subTest(at=at):
                self.assert_refused(NoNumber, Blocks, pool_count=thing)
                self.assert_refused(NoNumber, Blocks, pool_bytes=1072, pool_count=thing)

    def test_of_both_the_pool_size_is_refused(self):
        for at, thing in enumerate(NO_POOL_SIZES):
            for other_at, other in enumerate(NO_POOL_COUNTS):
                with self.subTest(at=at, other_at=other_at):
                    self.assert_refused(NoSize, Blocks, pool_bytes=thing, pool_count=other)

    def test_two_of_them_share_nothing(self):
        one, other = filled(2, 2), small_pools(2)
        one.take(9999)
        self.assertEqual(take_all(other, 512, 600), [(0, 0, 0), ("great", 0)])
        self.assertEqual((len(one), len(other)), (9, 2))


class Taking(Refusing):
    def test_small_sizes_tell_arena_pool_and_block(self):
        blocks = small_pools(3)
        told = take_all(blocks, 512, 0, 16, 17, 1, 497, 512)
        self.assertEqual(told, [(0, 0, 0), (0, 1, 0), (0, 1, 1), (0, 2, 0), (0, 1, 2), (0, 0, 1), (1, 0, 0)])
        for place in told:
            self.assertEqual([type(place), *map(type, place)], [tuple, int, int, int])

    def test_great_sizes_tell_numbers_from_0_on(self):
        blocks = small_pools(1)
        self.assertEqual(take_all(blocks, 513, 9999, 600), [("great", 0), ("great", 1), ("great", 2)])
        self.assertEqual(blocks.all_arenas(), [])

    def test_each_great_number_is_told_once(self):
        blocks = small_pools(1)
        take_all(blocks, 513, 514, 515)
        self.assertEqual(give_all(blocks, ("great", 2), ("great", 0)), [515, 513])
        self.assertEqual(take_all(blocks, 513, 515), [("great", 3), ("great", 4)])
        self.assertEqual(give_all(blocks, ("great", 4), ("great", 1), ("great", 3)), [515, 514, 513])
        self.assertEqual(blocks.take(700), ("great", 5))

    def test_small_and_great_ones_are_counted_apart(self):
        blocks = small_pools(1)
        self.assertEqual(take_all(blocks, 512, 513, 512, 600), [(0, 0, 0), ("great", 0), (0, 0, 1), ("great", 1)])

    def test_what_is_no_size_is_refused_and_changes_nothing(self):
        for blocks in (small_pools(2), filled(2, 1)):
            before = seen_blocks(blocks, 2)
            for at, thing in enumerate(NO_SIZES):
                with self.subTest(at=at):
                    self.assert_refused(NoSize, blocks.take, thing)
            self.assertEqual(seen_blocks(blocks, 2), before)
            self.assertEqual(blocks.take(513), ("great", 0))


class DrawingBlocks(unittest.TestCase):
    def test_the_one_that_came_back_last_else_the_least_that_was_never_out(self):
        blocks = Blocks(pool_count=1)
        take_all(blocks, 512, 512, 512, 512)
        give_all(blocks, (0, 0, 1), (0, 0, 3), (0, 0, 0))
        self.assertEqual([blocks.take(500)[2] for _ in range(5)], [0, 3, 1, 4, 5])

    def test_the_first_used_pool_gives_till_all_its_blocks_are_out(self):
        blocks = filled(4, 1)
        give_all(blocks, (0, 2, 1), (0, 0, 0), (0, 3, 1))
        self.assertEqual(blocks.used_pools(31), [(0, 3), (0, 0), (0, 2)])
        self.assertEqual(take_all(blocks, 512, 512, 512), [(0, 3, 1), (0, 0, 0), (0, 2, 1)])

    def test_a_pool_of_which_all_blocks_are_out_is_in_no_row(self):
        blocks = small_pools(2)
        seen = []
        for _ in range(3):
            blocks.take(512)
            seen.append(blocks.used_pools(31))
        self.assertEqual(seen, [[(0, 0)], [], [(0, 1)]])

    def test_each_kind_has_a_row_of_its_own(self):
        blocks = small_pools(3)
        take_all(blocks, 512, 400, 16)
        rows = [blocks.used_pools(kind) for kind in range(32)]
        due = [[] for _ in range(32)]
        due[31], due[24], due[0] = [(0, 0)], [(0, 1)], [(0, 2)]
        self.assertEqual(rows, due)
        self.assertEqual(take_all(blocks, 400, 512, 16), [(0, 1, 1), (0, 0, 1), (0, 2, 1)])


class DrawingPools(unittest.TestCase):
    def test_the_least_that_was_never_drawn(self):
        blocks = small_pools(3)
        self.assertEqual(take_all(blocks, 512, 400, 300), [(0, 0, 0), (0, 1, 0), (0, 2, 0)])

    def test_ahead_of_it_the_one_that_became_empty_last(self):
        blocks = small_pools(5)
        take_all(blocks, 512, 400, 300)
        give_all(blocks, (0, 1, 0), (0, 0, 0), (0, 2, 0))
        sizes = (200, 100, 50, 16, 512)
        self.assertEqual(take_all(blocks, *sizes), [(0, 2, 0), (0, 0, 0), (0, 1, 0), (0, 3, 0), (0, 4, 0)])

    def test_a_pool_that_is_drawn_again_is_empty_no_more(self):
        blocks = small_pools(4)
        take_all(blocks, 512, 400)
        give_all(blocks, (0, 0, 0))
        blocks.take(300)
        give_all(blocks, (0, 1, 0), (0, 0, 0))
        self.assertEqual(take_all(blocks, 16, 200, 100), [(0, 0, 0), (0, 1, 0), (0, 2, 0)])

    def test_drawn_for_the_same_kind_it_goes_on_as_if_it_had_always_been_drawn(self):
        blocks = Blocks(pool_count=2)
        take_all(blocks, 512, 512, 512, 512)
        give_all(blocks, (0, 0, 2), (0, 0, 0), (0, 0, 3), (0, 0, 1))
        self.assertEqual([blocks.take(497) for _ in range(6)], [(0, 0, block) for block in (1, 3, 0, 2, 4, 5)])

    def test_drawn_for_another_kind_it_is_as_new(self):
        blocks = Blocks(pool_count=2)
        take_all(blocks, 512, 512, 512, 512)
        give_all(blocks, (0, 0, 2), (0, 0, 0), (0, 0, 3), (0, 0, 1))
        self.assertEqual([blocks.take(496) for _ in range(6)], [(0, 0, block) for block in range(6)])
        self.assertEqual(blocks.pool_at(0, 0), (30, 6, 8))

    def test_only_the_kind_when_it_was_last_drawn_counts(self):
        blocks = Blocks(pool_count=2)
        take_all(blocks, 512, 512, 512)
        give_all(blocks, (0, 0, 0), (0, 0, 1), (0, 0, 2))
        blocks.give(blocks.take(496))
        self.assertEqual([blocks.take(512) for _ in range(4)], [(0, 0, block) for block in range(4)])

    def test_the_pool_is_alone_in_the_row(self):
        blocks = filled(3, 1)
        give_pool(blocks, 0, 1)
        blocks.take(400)
        self.assertEqual((blocks.used_pools(24), blocks.used_pools(31)), ([(0, 1)], []))

    def test_it_comes_from_the_first_useful_arena(self):
        blocks = filled(3, 3)
        for arena, pool in ((2, 0), (1, 0), (1, 2), (2, 1), (0, 1)):
            give_pool(blocks, arena, pool)
        self.assertEqual(blocks.useful_arenas(), [(0, 1), (2, 2), (1, 2)])
        told = take_all(blocks, 400, 300, 200, 100, 50)
        self.assertEqual(told, [(0, 1, 0), (2, 1, 0), (2, 0, 0), (1, 2, 0), (1, 0, 0)])
        self.assertEqual(blocks.useful_arenas(), [])


class ComingArenas(unittest.TestCase):
    def test_an_arena_comes_where_the_row_is_empty(self):
        blocks = small_pools(2)
        seen = []
        for _ in range(7):
            blocks.take(512)
            seen.append((blocks.useful_arenas(), blocks.all_arenas()))
        due = [([(0, 1)], [0]), ([(0, 1)], [0]), ([], [0]), ([], [0])]
        due += [([(1, 1)], [0, 1]), ([(1, 1)], [0, 1]), ([], [0, 1])]
        self.assertEqual(seen, due)

    def test_no_arena_comes_where_one_is_useful(self):
        blocks = filled(2, 2)
        give_pool(blocks, 0, 0)
        self.assertEqual(take_all(blocks, 400, 400, 400), [(0, 0, 0), (0, 0, 1), (2, 0, 0)])

    def test_an_arena_of_one_pool_is_never_seen_in_the_row_till_it_is_empty(self):
        blocks = small_pools(1)
        blocks.take(512)
        self.assertEqual((blocks.useful_arenas(), blocks.all_arenas()), ([], [0]))

    def test_the_number_that_went_back_last_comes_first(self):
        blocks = filled(2, 4)
        give_pool(blocks, 0, 0)
        for arena in (1, 3, 2):
            give_pool(blocks, arena, 0)
            give_pool(blocks, arena, 1)
        self.assertEqual((blocks.all_arenas(), blocks.useful_arenas()), ([0], [(0, 1)]))
        told = take_all(blocks, *[512] * 2, *[400] * 18)
        self.assertEqual([place[0] for place in told[::2]], [0, 2, 2, 3, 3, 1, 1, 4, 4, 5])
        self.assertEqual(blocks.all_arenas(), [0, 1, 2, 3, 4, 5])

    def test_a_number_that_came_again_is_not_free(self):
        blocks = filled(2, 3)
        give_pool(blocks, 0, 0)
        for arena in (1, 2):
            give_pool(blocks, arena, 0)
            give_pool(blocks, arena, 1)
        self.assertEqual([place[0] for place in take_all(blocks, *[512] * 6)], [0, 0, 2, 2, 2, 2])
        give_pool(blocks, 0, 0)
        give_pool(blocks, 2, 1)
        give_pool(blocks, 2, 0)
        self.assertEqual(blocks.all_arenas(), [0])
        self.assertEqual([place[0] for place in take_all(blocks, *[512] * 12)], [0] * 2 + [2] * 4 + [1] * 4 + [3] * 2)

    def test_an_arena_that_comes_again_has_pools_that_were_never_drawn(self):
        blocks = filled(3, 2)
        give_pool(blocks, 0, 2)
        give_pool(blocks, 0, 1)
        for pool in (0, 2, 1):
            give_all(blocks, (1, pool, 1), (1, pool, 0))
        self.assertEqual((blocks.all_arenas(), blocks.useful_arenas()), ([0], [(0, 2)]))
        told = take_all(blocks, *[512] * 10)
        due = [(0, 1, 1), (0, 1, 0), (0, 2, 1), (0, 2, 0)]
        due += [(1, 0, 0), (1, 0, 1), (1, 1, 0), (1, 1, 1), (1, 2, 0), (1, 2, 1)]
        self.assertEqual(told, due)


class Giving(unittest.TestCase):
    def test_told_is_for_how_many_bytes_it_was_asked(self):
        blocks = Blocks(pool_count=64)
        sizes = (0, 1, 16, 17, 100, 511, 512, 513, 9999)
        places = take_all(blocks, *sizes)
        self.assertEqual(give_all(blocks, *places), list(sizes))
        self.assertEqual((len(blocks), blocks.live()), (0, []))

    def test_a_full_pool_becomes_the_first_of_its_row(self):
        blocks = filled(3, 1)
        seen = []
        for place in ((0, 1, 0), (0, 0, 1), (0, 2, 0)):
            blocks.give(place)
            seen.append(blocks.used_pools(31))
        self.assertEqual(seen, [[(0, 1)], [(0, 0), (0, 1)], [(0, 2), (0, 0), (0, 1)]])

    def test_a_used_pool_stays_where_it_is(self):
        blocks = Blocks(pool_bytes=1584, pool_count=2)
        take_all(blocks, *[512] * 6)
        give_all(blocks, (0, 0, 0), (0, 1, 0), (0, 0, 1))
        self.assertEqual(blocks.used_pools(31), [(0, 1), (0, 0)])

    def test_an_emptied_pool_leaves_its_row_from_any_place(self):
        for pool, left in ((0, [(0, 2), (0, 1)]), (1, [(0, 2), (0, 0)]), (2, [(0, 1), (0, 0)])):
            with self.subTest(pool=pool):
                blocks = filled(3, 1)
                give_all(blocks, (0, 0, 0), (0, 1, 0), (0, 2, 0))
                self.assertEqual(blocks.used_pools(31), [(0, 2), (0, 1), (0, 0)])
                blocks.give((0, pool, 1))
                self.assertEqual((blocks.used_pools(31), blocks.pool_at(0, pool)), (left, None))
                self.assertEqual(blocks.useful_arenas(), [(0, 1)])

    def test_a_great_block_moves_no_pool(self):
        blocks = filled(2, 2)
        blocks.take(600)
        before = seen_blocks(blocks, 2)
        blocks.take(513)
        self.assertEqual(blocks.give(("great", 1)), 513)
        self.assertEqual(seen_blocks(blocks, 2), before)


class GoingArenas(unittest.TestCase):
    def rows_behind(self, blocks, *pools):
        rows = []
        for arena, pool in pools:
            give_pool(blocks, arena, pool)
            rows.append(blocks.useful_arenas())
        return rows

    def test_the_place_in_the_row_behind_each_give(self):
        blocks = filled(3, 4)
        rows = self.rows_behind(blocks, (0, 0), (1, 0), (0, 1), (2, 0), (1, 2), (2, 1))
        self.assertEqual(rows, [
            [(0, 1)],
            [(1, 1), (0, 1)],
            [(1, 1), (0, 2)],
            [(2, 1), (1, 1), (0, 2)],
            [(2, 1), (1, 2), (0, 2)],
            [(2, 2), (1, 2), (0, 2)],
        ])
        self.assertEqual(blocks.all_arenas(), [0, 1, 2, 3])
        rows = self.rows_behind(blocks, (1, 1), (0, 2), (2, 2), (3, 0))
        self.assertEqual(rows, [[(2, 2), (0, 2)], [(2, 2), (0, 3)], [(0, 3)], [(3, 1), (0, 3)]])
        self.assertEqual(blocks.all_arenas(), [0, 3])
        self.assertEqual(take_all(blocks, 512, 512, 512), [(3, 0, 1), (3, 0, 0), (0, 2, 1)])
        self.assertEqual(blocks.useful_arenas(), [(0, 2)])

    def test_it_stands_ahead_of_those_that_have_as_many_or_more(self):
        blocks = filled(4, 4)
        rows = self.rows_behind(blocks, (0, 0), (0, 1), (0, 2), (1, 0), (1, 1), (2, 0), (3, 0), (3, 1), (3, 2))
        self.assertEqual(rows[-4:], [
            [(2, 1), (1, 2), (0, 3)],
            [(3, 1), (2, 1), (1, 2), (0, 3)],
            [(2, 1), (3, 2), (1, 2), (0, 3)],
            [(2, 1), (1, 2), (3, 3), (0, 3)],
        ])

    def test_the_last_one_of_the_row_stays(self):
        blocks = filled(2, 2)
        rows = self.rows_behind(blocks, (0, 0), (1, 0), (0, 1))
        self.assertEqual(rows, [[(0, 1)], [(1, 1), (0, 1)], [(1, 1), (0, 2)]])
        self.assertEqual(blocks.all_arenas(), [0, 1])
        self.assertEqual(self.rows_behind(blocks, (1, 1)), [[(0, 2)]])
        self.assertEqual((blocks.all_arenas(), len(blocks)), ([0], 0))

    def test_the_only_one_of_the_row_stays(self):
        blocks = filled(2, 1)
        self.assertEqual(self.rows_behind(blocks, (0, 1), (0, 0)), [[(0, 1)], [(0, 2)]])
        self.assertEqual(blocks.all_arenas(), [0])

    def test_an_arena_of_one_pool_is_not_in_the_row_and_stays(self):
        blocks = filled(1, 3)
        self.assertEqual(self.rows_behind(blocks, (1, 0), (0, 0), (2, 0)), [
            [(1, 1)], [(0, 1), (1, 1)], [(2, 1), (0, 1), (1, 1)],
        ])
        self.assertEqual(blocks.all_arenas(), [0, 1, 2])
        self.assertEqual(take_all(blocks, 512, 400, 16), [(2, 0, 1), (0, 0, 0), (1, 0, 0)])

    def test_it_goes_back_only_with_its_last_pool(self):
        blocks = filled(3, 2)
        self.rows_behind(blocks, (0, 0), (1, 0), (1, 1))
        self.assertEqual(blocks.useful_arenas(), [(0, 1), (1, 2)])
        give_pool(blocks, 0, 1)
        self.assertEqual(blocks.useful_arenas(), [(0, 2), (1, 2)])
        blocks.give((0, 2, 0))
        self.assertEqual((blocks.useful_arenas(), blocks.all_arenas()), ([(0, 2), (1, 2)], [0, 1]))
        blocks.give((0, 2, 1))
        self.assertEqual((blocks.useful_arenas(), blocks.all_arenas()), ([(1, 2)], [1]))
        self.assertEqual(blocks.bytes_out(), (1024, 1024, 3 * 1072))


class NoSuchBlock(Refusing):
    def some_out(self):
        """Out are blocks 0 and 1 of pool (0, 1), block 1 of pool (0, 0), great 0 and great 1."""
        blocks = small_pools(2)
        take_all(blocks, 512, 512, 400, 400, 513, 514, 515)
        give_all(blocks, (0, 0, 0), ("great", 2))
        return blocks

    def wrong_places(self):
        truths = [
            (False, 0, 1), (0, False, 1), (0, 0, True), (0, True, 0), (False, True, False),
            ("great", False), ("great", True), (0, True, True),
        ]
        not_out = [
            (0, 0, 0), (0, 0, 2), (0, 1, 2), (0, 2, 0), (1, 0, 0), (0, 0, -1), (-1, 0, 1), (0, -1, 0), (0, -2, 1),
            ("great", 2), ("great", 3), ("great", -1), (10 ** 5000, 0, 0), (0, 0, 10 ** 5000), ("great", 10 ** 5000),
        ]
        other_forms = [
            (), (0,), (0, 0), (0, 1), (0, 0, 1, 0), (0, 0, 1, None), ("great",), ("great", 0, 0), ("great", 0, 1),
            (0, "great"), ("Great", 0), ("grea", 0), ("", 0), ("great", "0"), ("great", None), ("great", (0,)),
            ("great", [0]), (["great"], 0), (("great",), 0), (None, 0), (True, 0), (0, 0, "1"), ("0", "0", "1"),
            (0, 0, None), (0, None, 1), (0, [0], 1), ([0], 0, 1), (0, 0, [1]), (0, 0, (1,)), (None, None, None),
            ((0, 0, 1),), ((0, 0, 1), (0, 1, 0), (0, 1, 1)), [0, 0, 1], ["great", 0], [(0, 0, 1)], "great", "001",
            [], [0], [[[[[[0, 0, 1]]]]]], ((((((0, 0, 1),),),),),),
        ]
        return truths + not_out + other_forms + list(NO_LISTS) + list(NO_WHOLE_NUMBERS) + list(FAR_OFF)

    def test_what_is_no_block_that_is_out_is_refused(self):
        blocks = self.some_out()
        before = seen_blocks(blocks, 2)
        for ask in (blocks.give, blocks.size_at):
            for at, thing in enumerate(self.wrong_places()):
                with self.subTest(ask=ask.__name__, at=at):
                    refusal = self.assert_refused(NoBlock, ask, thing)
                    self.assertIs(refusal.places, thing)
        self.assertEqual(seen_blocks(blocks, 2), before)
        places = [(0, 0, 1), (0, 1, 0), (0, 1, 1), ("great", 0), ("great", 1)]
        self.assertEqual(give_all(blocks, *places), [512, 400, 400, 513, 514])

    def test_of_new_blocks_nothing_is_out(self):
        for at, thing in enumerate([*self.wrong_places(), (0, 0, 1), ("great", 0)]):
            with self.subTest(at=at):
                self.assert_refused(NoBlock, small_pools(2).give, thing)
                self.assert_refused(NoBlock, small_pools(2).size_at, thing)

    def test_none_comes_back_twice(self):
        blocks = filled(2, 2)
        blocks.take(513)
        for place, size in blocks.live():
            self.assertEqual(blocks.give(place), size)
            before = seen_blocks(blocks, 2)
            self.assertEqual(self.assert_refused(NoBlock, blocks.give, place).places, place)
            self.assertEqual(seen_blocks(blocks, 2), before)

    def test_a_block_that_is_out_again_comes_back_again(self):
        blocks = filled(2, 1)
        self.assertEqual(blocks.give((0, 1, 0)), 512)
        self.assertEqual(blocks.take(499), (0, 1, 0))
        self.assertEqual((blocks.size_at((0, 1, 0)), blocks.give((0, 1, 0))), (499, 499))

    def test_a_refused_give_leaves_what_comes_next_as_it_was(self):
        one, other = self.some_out(), self.some_out()
        for thing in self.wrong_places():
            self.assert_refused(NoBlock, one.give, thing)
        sizes = (512, 512, 400, 400, 600, 16, 17)
        self.assertEqual(take_all(one, *sizes), take_all(other, *sizes))
        self.assertEqual(seen_blocks(one, 2), seen_blocks(other, 2))


class Telling(Refusing):
    def test_live_is_rising_with_great_ones_behind(self):
        blocks = small_pools(2)
        take_all(blocks, 600, 512, 400, 513, 512, 300, 398, *[700] * 9)
        give_all(blocks, (0, 0, 0), ("great", 1))
        blocks.take(510)
        due = [((0, 0, 0), 510), ((0, 0, 1), 512), ((0, 1, 0), 400), ((0, 1, 1), 398), ((1, 0, 0), 300)]
        due += [(("great", 0), 600)] + [(("great", number), 700) for number in range(2, 11)]
        self.assertEqual(blocks.live(), due)
        self.assertEqual(len(blocks), len(due))
        self.assertEqual([blocks.size_at(place) for place, size in due], [size for place, size in due])

    def test_live_goes_by_numbers_not_by_texts(self):
        blocks = Blocks(pool_count=12)
        places = [blocks.take(512) for _ in range(12 * 7 * 12)]
        self.assertEqual([place for place, size in blocks.live()], places)
        self.assertEqual(places, sorted(places))

    def test_pool_at(self):
        blocks = small_pools(3)
        take_all(blocks, 512, 512, 16, 400)
        blocks.give((0, 2, 0))
        self.assertEqual([blocks.pool_at(0, pool) for pool in range(3)], [(31, 2, 2), (0, 1, 64), None])
        self.assertIsInstance(blocks.pool_at(0, 0), tuple)

    def test_pool_at_is_none_where_there_is_no_such_arena(self):
        blocks = filled(2, 3)
        self.assertEqual([blocks.pool_at(arena, 1) for arena in (3, 4, 9998, 9999)], [None] * 4)
        give_pool(blocks, 0, 0)
        give_pool(blocks, 2, 0)
        give_pool(blocks, 2, 1)
        self.assertEqual(blocks.all_arenas(), [0, 1])
        self.assertEqual([blocks.pool_at(2, pool) for pool in range(2)], [None, None])

    def test_pool_at_refuses_what_is_no_number_of_an_arena(self):
        for blocks in (small_pools(2), filled(2, 2)):
            for at, thing in enumerate((-1, 10000, *FAR_OFF, *NO_WHOLE_NUMBERS)):
                with self.subTest(at=at):
                    self.assert_refused(NoNumber, blocks.pool_at, thing, 0)
                    self.assert_refused(NoNumber, blocks.pool_at, thing, thing)

    def test_pool_at_refuses_what_is_no_number_of_a_pool(self):
        for pool_count in (1, 2, 64):
            for blocks in (small_pools(pool_count), filled(pool_count, 1)):
                self.assertIn(blocks.pool_at(0, pool_count - 1), (None, (31, 2, 2)))
                for at, thing in enumerate((-1, pool_count, 64, 65, *FAR_OFF, *NO_WHOLE_NUMBERS)):
                    with self.subTest(pool_count=pool_count, at=at):
                        self.assert_refused(NoNumber, blocks.pool_at, 0, thing)
                        self.assert_refused(NoNumber, blocks.pool_at, 9999, thing)

    def test_used_pools_refuses_what_is_no_kind(self):
        for blocks in (small_pools(2), filled(2, 2)):
            for at, thing in enumerate((-1, 32, *FAR_OFF, *NO_WHOLE_NUMBERS)):
                with self.subTest(at=at):
                    self.assert_refused(NoNumber, blocks.used_pools, thing)

    def test_bytes_out(self):
        blocks = small_pools(2)
        seen = []
        for size in (0, 1, 17, 512, 513, 400):
            blocks.take(size)
            seen.append(blocks.bytes_out())
        arena = 2 * 1072
        self.assertEqual(seen, [
            (0, 16, arena), (1, 32, arena), (18, 64, arena), (530, 576, 2 * arena), (530, 576, 2 * arena),
            (930, 976, 2 * arena),
        ])
        self.assertIsInstance(blocks.bytes_out(), tuple)
        give_all(blocks, ("great", 0), (0, 1, 0), (0, 0, 0))
        self.assertEqual(blocks.bytes_out(), (913, 928, 2 * arena))

    def test_told_lists_are_new_ones(self):
        blocks = filled(3, 2)
        give_all(blocks, (0, 0, 0), (0, 0, 1), (1, 2, 0), (1, 1, 1))
        blocks.take(600)
        before = copy.deepcopy(seen_blocks(blocks, 3))
        for ask in (blocks.live, blocks.useful_arenas, blocks.all_arenas, lambda: blocks.used_pools(31)):
            told = ask()
            self.assertIs(type(told), list)
            self.assertGreater(len(told), 0)
            told.append(told[0])
            told[0] = None
            ask().clear()
        self.assertEqual(seen_blocks(blocks, 3), before)
        self.assertEqual(take_all(blocks, 512, 512, 400), [(1, 1, 1), (1, 2, 0), (0, 0, 0)])

    def test_told_pairs_are_tuples(self):
        blocks = filled(2, 1)
        give_all(blocks, (0, 0, 0), (0, 1, 0), (0, 1, 1))
        for told in (blocks.live(), blocks.useful_arenas(), blocks.used_pools(31)):
            self.assertEqual({type(part) for part in told}, {tuple})


if __name__ == "__main__":
    unittest.main()
