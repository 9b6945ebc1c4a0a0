"""What several test files need: things to hand in, a check of refusals, and numbers for long histories."""

import copy
import unittest

from pyheap.errors import HeapError

NO_LISTS = (
    None, True, False, 0, 1, -1, 10 ** 5000, "", "a", "great", "[]", (), (0,), (1, 2, 3), ([],), ([0], [1]),
    (((((((),),),),),),), ((None, True), ("a", [0])),
)
NO_WHOLE_NUMBERS = (
    True, False, None, "", "0", "16", "1072", "abc", [], [0], [16], [1072], (), (0,), (16,), (1072,),
    [[[[[[0]]]]]], ((((((0,),),),),),), [(None, [True, "a"])],
)
# Python writes no number of 5000 figures as text, so each subTest names a thing
# by where it stands in its table.
FAR_OFF = (-10 ** 30, -16, 10 ** 30, -10 ** 5000, 10 ** 5000)


class Refusing(unittest.TestCase):
    def assert_refused(self, refusal, function, *things, **named):
        before = copy.deepcopy((things, named))
        with self.assertRaises(HeapError) as caught:
            function(*things, **named)
        self.assertEqual(type(caught.exception), refusal)
        self.assertEqual((things, named), before)
        return caught.exception


class Numbers:
    """The same row of numbers in each run, on each Python."""

    def __init__(self, start):
        self.state = start * 2654435761 + 12345

    def below(self, bound):
        self.state = (self.state * 6364136223846793005 + 1442695040888963407) % 2 ** 64
        return (self.state >> 33) % bound

    def one_of(self, things):
        return things[self.below(len(things))]

    def mixed(self, things):
        left = list(things)
        return [left.pop(self.below(len(left))) for _ in range(len(left))]


def seen_blocks(blocks, pool_count):
    """All that is told of blocks."""
    live = blocks.live()
    arenas = blocks.all_arenas()
    return {
        "len": len(blocks),
        "live": live,
        "sizes": [blocks.size_at(place) for place, size in live],
        "useful": blocks.useful_arenas(),
        "arenas": arenas,
        "rows": [blocks.used_pools(kind) for kind in range(32)],
        "pools": {
            (arena, pool): blocks.pool_at(arena, pool)
            for arena in range(max(arenas, default=0) + 2) for pool in range(pool_count)
        },
        "bytes": blocks.bytes_out(),
    }
