"""Sizes, kinds and pool sizes (1.1, 1.2, and what 0.3 says of them)."""

import unittest

from helping import FAR_OFF, NO_WHOLE_NUMBERS, Refusing
from pyheap.errors import NoNumber, NoSize
from pyheap.sizes import blocks_in, kind_of, room_of

KINDS = range(32)
NO_SIZES = (-1, 10000, *FAR_OFF, *NO_WHOLE_NUMBERS)
NO_KINDS = (-1, 32, *FAR_OFF, *NO_WHOLE_NUMBERS)
NO_POOL_SIZES = (
    0, 16, 48, 1056, 1071, 1073, 1080, 4088, 4095, 4097, 4112, -1072, *FAR_OFF, *NO_WHOLE_NUMBERS,
)


class KindOf(Refusing):
    def test_each_small_size_has_the_least_kind_with_room(self):
        for size in range(513):
            with self.subTest(size=size):
                with_room = [kind for kind in KINDS if 16 * (kind + 1) >= max(size, 1)]
                self.assertEqual(kind_of(size), with_room[0])
                self.assertIs(type(kind_of(size)), int)

    def test_the_edges(self):
        told = {0: 0, 1: 0, 15: 0, 16: 0, 17: 1, 32: 1, 33: 2, 496: 30, 497: 31, 511: 31, 512: 31}
        self.assertEqual({size: kind_of(size) for size in told}, told)

    def test_great_sizes_have_no_kind(self):
        for size in (513, 514, 528, 1072, 9998, 9999):
            with self.subTest(size=size):
                self.assertIsNone(kind_of(size))

    def test_what_is_no_size_is_refused(self):
        for at, thing in enumerate(NO_SIZES):
            with self.subTest(at=at):
                self.assert_refused(NoSize, kind_of, thing)


class RoomOf(Refusing):
    def test_each_kind(self):
        self.assertEqual([room_of(kind) for kind in KINDS], list(range(16, 513, 16)))

    def test_a_block_of_the_kind_has_room_for_what_is_asked(self):
        for size in range(513):
            with self.subTest(size=size):
                self.assertGreaterEqual(room_of(kind_of(size)), max(size, 1))

    def test_what_is_no_kind_is_refused(self):
        for at, thing in enumerate(NO_KINDS):
            with self.subTest(at=at):
                self.assert_refused(NoNumber, room_of, thing)


class BlocksIn(Refusing):
    def test_some_by_hand(self):
        told = {
            (1072, 0): 64, (1072, 1): 32, (1072, 2): 21, (1072, 30): 2, (1072, 31): 2,
            (1568, 31): 2, (1584, 31): 3, (2048, 0): 125, (2048, 9): 12,
            (4080, 31): 7, (4096, 0): 253, (4096, 2): 84, (4096, 30): 8, (4096, 31): 7,
        }
        self.assertEqual({pair: blocks_in(*pair) for pair in told}, told)

    def test_as_many_as_fit_and_not_one_more(self):
        for pool_size in range(1072, 4097, 16):
            for kind in KINDS:
                with self.subTest(pool_size=pool_size, kind=kind):
                    many = blocks_in(pool_size, kind)
                    self.assertIs(type(many), int)
                    self.assertLessEqual(48 + many * 16 * (kind + 1), pool_size)
                    self.assertGreater(48 + (many + 1) * 16 * (kind + 1), pool_size)

    def test_what_is_no_pool_size_is_refused(self):
        for at, thing in enumerate(NO_POOL_SIZES):
            for kind in (0, 31):
                with self.subTest(at=at, kind=kind):
                    self.assert_refused(NoSize, blocks_in, thing, kind)

    def test_what_is_no_kind_is_refused(self):
        for at, thing in enumerate(NO_KINDS):
            for pool_size in (1072, 4096):
                with self.subTest(at=at, pool_size=pool_size):
                    self.assert_refused(NoNumber, blocks_in, pool_size, thing)

    def test_the_pool_size_is_refused_first(self):
        for at, thing in enumerate(NO_POOL_SIZES):
            for kind_at, kind in enumerate(NO_KINDS):
                with self.subTest(at=at, kind_at=kind_at):
                    self.assert_refused(NoSize, blocks_in, thing, kind)


if __name__ == "__main__":
    unittest.main()
