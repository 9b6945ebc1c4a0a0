"""One pool (1.2, and what 2.2 and 2.4 say of a single pool)."""

import unittest

from pyheap.errors import NoNumber, NoSize
from pyheap.pools import Pool


def drawn(pool_size, kind):
    pool = Pool(pool_size)
    pool.draw_for(kind)
    return pool


def handed_out(pool, many):
    return [pool.hand_out() for _ in range(many)]


class Model:
    """A pool by the words of 2.2: it searches its whole past each time."""

    def __init__(self, many):
        self.many = many
        self.past = []

    def out(self):
        return {block for word, block in self.past if word == "out" and self.is_out(block)}

    def is_out(self, block):
        return [word for word, other in self.past if other == block][-1] == "out"

    def next_block(self):
        out = self.out()
        for word, block in reversed(self.past):
            if word == "back" and block not in out:
                return block
        ever_out = {block for word, block in self.past}
        return min(set(range(self.many)) - ever_out, default=None)


class NewPool(unittest.TestCase):
    def test_it_has_no_kind_and_no_blocks_till_it_is_drawn(self):
        pool = Pool(1072)
        self.assertIsNone(pool.kind)
        self.assertEqual((pool.block_count, pool.out_count()), (0, 0))
        self.assertTrue(pool.is_empty())
        self.assertIsNone(pool.hand_out())

    def test_kind_and_number_of_blocks(self):
        for pool_size, kind, many in ((1072, 0, 64), (1072, 31, 2), (1584, 31, 3), (4096, 0, 253), (4096, 31, 7)):
            with self.subTest(pool_size=pool_size, kind=kind):
                pool = drawn(pool_size, kind)
                self.assertEqual((pool.kind, pool.block_count, pool.out_count()), (kind, many, 0))

    def test_what_is_no_pool_size_is_refused(self):
        for thing in (1056, 1071, 1073, 4097, 4112, True, None, "1072", [1072], (1072,)):
            with self.subTest(thing=thing), self.assertRaises(NoSize):
                Pool(thing)

    def test_what_is_no_kind_is_refused_and_changes_nothing(self):
        pool = drawn(1584, 1)
        pool.hand_back(handed_out(pool, 3)[0])
        for thing in (-1, 32, True, False, None, "1", [1], (1,)):
            with self.subTest(thing=thing), self.assertRaises(NoNumber):
                pool.draw_for(thing)
        self.assertEqual((pool.kind, pool.block_count, pool.out_count()), (1, 48, 2))
        self.assertEqual(handed_out(pool, 2), [0, 3])


class Giving(unittest.TestCase):
    def test_blocks_come_from_the_least_on_and_no_more_than_there_are(self):
        for pool_size, kind, many in ((1072, 31, 2), (1072, 0, 64), (4096, 0, 253)):
            with self.subTest(pool_size=pool_size, kind=kind):
                pool = drawn(pool_size, kind)
                self.assertEqual(handed_out(pool, many), list(range(many)))
                self.assertIsNone(pool.hand_out())
                self.assertEqual(pool.out_count(), many)

    def test_the_one_that_came_back_last_comes_first(self):
        pool = drawn(4096, 31)
        handed_out(pool, 5)
        for block in (1, 4, 0):
            pool.hand_back(block)
        self.assertEqual(handed_out(pool, 5), [0, 4, 1, 5, 6])

    def test_what_came_back_comes_ahead_of_what_was_never_out(self):
        pool = drawn(4096, 31)
        handed_out(pool, 3)
        pool.hand_back(2)
        self.assertEqual(handed_out(pool, 2), [2, 3])

    def test_a_full_pool_gives_what_came_back(self):
        pool = drawn(1584, 31)
        handed_out(pool, 3)
        pool.hand_back(1)
        self.assertEqual(handed_out(pool, 2), [1, None])

    def test_full_and_empty(self):
        pool = drawn(1072, 31)
        seen = [(pool.is_full(), pool.is_empty())]
        for _ in range(2):
            pool.hand_out()
            seen.append((pool.is_full(), pool.is_empty()))
        for block in (1, 0):
            pool.hand_back(block)
            seen.append((pool.is_full(), pool.is_empty()))
        middle = (False, False)
        self.assertEqual(seen, [(False, True), middle, (True, False), middle, (False, True)])


class DrawnAgain(unittest.TestCase):
    def emptied(self):
        pool = drawn(4096, 31)
        handed_out(pool, 4)
        for block in (2, 0, 3, 1):
            pool.hand_back(block)
        return pool

    def test_for_the_same_kind_as_if_it_had_always_been_drawn(self):
        pool = self.emptied()
        pool.draw_for(31)
        self.assertEqual((pool.kind, pool.block_count, pool.out_count()), (31, 7, 0))
        self.assertEqual(handed_out(pool, 8), [1, 3, 0, 2, 4, 5, 6, None])

    def test_for_another_kind_as_if_it_were_new(self):
        for kind, many in ((30, 8), (0, 253)):
            with self.subTest(kind=kind):
                pool = self.emptied()
                pool.draw_for(kind)
                self.assertEqual((pool.kind, pool.block_count, pool.out_count()), (kind, many, 0))
                self.assertEqual(handed_out(pool, many + 1), [*range(many), None])

    def test_only_the_kind_of_the_last_drawing_counts(self):
        pool = self.emptied()
        pool.draw_for(30)
        pool.hand_back(pool.hand_out())
        pool.draw_for(31)
        self.assertEqual(handed_out(pool, 8), [0, 1, 2, 3, 4, 5, 6, None])

    def test_two_pools_share_nothing(self):
        one, other = self.emptied(), drawn(4096, 31)
        self.assertEqual(other.hand_out(), 0)
        self.assertEqual(one.hand_out(), 1)


class AllShortPasts(unittest.TestCase):
    """Every past of a few deeds, beside the model; each is done anew."""

    def choices(self, model, kind):
        out = sorted(model.out())
        deeds = [("back", block) for block in out]
        if model.next_block() is not None:
            deeds.append(("out", None))
        if not out:
            deeds.extend([("draw", kind), ("draw", 61 - kind)])
        return deeds

    def done(self, deeds):
        many = {31: 3, 30: 3}
        kind = 31
        pool, model = drawn(1584, kind), Model(many[kind])
        for word, told in deeds:
            if word == "draw":
                pool.draw_for(told)
                model = model if told == kind else Model(many[told])
                kind = told
            elif word == "out":
                due = model.next_block()
                self.assertEqual(pool.hand_out(), due, deeds)
                model.past.append(("out", due))
            else:
                pool.hand_back(told)
                model.past.append(("back", told))
            self.assertEqual((pool.kind, pool.out_count()), (kind, len(model.out())), deeds)
        return model, kind

    def test_the_pool_gives_what_the_model_gives(self):
        pasts = [()]
        for _ in range(8):
            longer = []
            for deeds in pasts:
                model, kind = self.done(deeds)
                longer.extend(deeds + (deed,) for deed in self.choices(model, kind))
            pasts = longer
        self.assertGreater(len(pasts), 1000)
        for deeds in pasts:
            self.done(deeds)


if __name__ == "__main__":
    unittest.main()
