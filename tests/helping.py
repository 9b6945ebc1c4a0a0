"""What several test files need: things to hand in, a check of refusals, and numbers for long histories."""

import copy
import unittest

from pyheap.errors import HeapError

NO_LISTS = (
    None, True, False, 0, 1, -1, 10 ** 5000, "", "a", "great", "[]", (), (0,), (1, 2, 3), ([],), ([0], [1]),
    (((((((),),),),),),), ((None, True), ("a", [0])),
)
NO_WHOLE_NUMBERS = (
    True, False, None, "", "0", "16", "1072", "abc", [], [0], [16], [1072], (), (0,), (16,), (1072,),
    [[[[[[0]]]]]], ((((((0,),),),),),), [(None, [True, "a"])],
)
NO_NAMES = (
    "", "abcdefg", "abcdefghij", "A", "aB", "a1", "1", " ", " a", "a ", "a b", "a\n", "\n", "a_", "-", ".", "\u00e4",
    "a\u00df", "\u0430", "a" * 5000, True, False, None, 0, 1, 10 ** 5000, [], ["a"], (), ("a",), ("a", "b"), [[[[[["a"]]]]]],
    (((((("a",),),),),),),
)
# Python writes no number of 5000 figures as text, so each subTest names a thing
# by where it stands in its table.
FAR_OFF = (-10 ** 30, -16, 10 ** 30, -10 ** 5000, 10 ** 5000)


class Refusing(unittest.TestCase):
    def assert_refused(self, refusal, function, *things, **named):
        before = copy.deepcopy((things, named))
        with self.assertRaises(HeapError) as caught:
            function(*things, **named)
        self.assertEqual(type(caught.exception), refusal)
        self.assertEqual((things, named), before)
        return caught.exception


class Numbers:
    """The same row of numbers in each run, on each Python."""

    def __init__(self, start):
        self.state = start * 2654435761 + 12345

    def below(self, bound):
        self.state = (self.state * 6364136223846793005 + 1442695040888963407) % 2 ** 64
        return (self.state >> 33) % bound

    def one_of(self, things):
        return things[self.below(len(things))]

    def mixed(self, things):
        left = list(things)
        return [left.pop(self.below(len(left))) for _ in range(len(left))]


def seen_blocks(blocks, pool_count):
    """All that is told of blocks."""
    live = blocks.live()
    arenas = blocks.all_arenas()
    return {
        "len": len(blocks),
        "live": live,
        "sizes": [blocks.size_at(place) for place, size in live],
        "useful": blocks.useful_arenas(),
        "arenas": arenas,
        "rows": [blocks.used_pools(kind) for kind in range(32)],
        "pools": {
            (arena, pool): blocks.pool_at(arena, pool)
            for arena in range(max(arenas, default=0) + 2) for pool in range(pool_count)
        },
        "bytes": blocks.bytes_out(),
    }


def do(world, deed):
    """Do a deed, as deeds() tells it; told is what the world tells."""
    word, *parts = deed
    if word == "make":
        name, form, holding, stepping, extra = parts
        return world.make(name, form, holding=holding, stepping=stepping, extra=extra)
    if word == "weaken":
        name, other, stepping = parts
        return world.weaken(name, other, stepping=stepping)
    if word == "bounds":
        return world.set_bounds(*parts)
    return getattr(world, word)(*parts)


def outcome(function, *things, **named):
    """A tuple of what is told, and of the refusal with its fields; None for the one that there is not."""
    try:
        return (function(*things, **named), None)
    except HeapError as refusal:
        return (None, (type(refusal).__name__, vars(refusal)))


def called(world):
    return sorted(world.heap.names.items())


def alive(world):
    return sorted(world.heap.things)


def form_of(world, number):
    return world.heap.things[number].form


def slots_of(world, number):
    return list(world.heap.things[number].slots)


def count_of(world, number):
    return world.heap.things[number].count


def place_of(world, number):
    return world.heap.things[number].place


def target_of(world, number):
    return world.heap.things[number].target


def watchers_of(world, number):
    return list(world.heap.things[number].watchers)


def was_asked(world, number):
    return world.heap.things[number].is_asked


def listed(world, place):
    return list(world.heap.lists[place])


def counters(world):
    return tuple(world.heap.counts)


def tours(world):
    return list(zip(world.heap.tours_done, world.heap.tours_found))


def past(world):
    return list(world.heap.events)


def block_of(world, number):
    return world.heap.things[number].block


def seen_thing(world, number):
    """All that is told of a thing."""
    form = form_of(world, number)
    return {
        "form": form,
        "slots": slots_of(world, number),
        "count": count_of(world, number),
        "place": place_of(world, number),
        "target": target_of(world, number) if form == "weak" else None,
        "watchers": watchers_of(world, number),
        "asked": was_asked(world, number),
        "block": block_of(world, number),
    }


def seen_world(world):
    """All that is told of a world."""
    return {
        "len": len(world),
        "repr": repr(world),
        "names": called(world),
        "things": {number: seen_thing(world, number) for number in alive(world)},
        "lists": [listed(world, place) for place in range(4)],
        "counters": counters(world),
        "tours": tours(world),
        "past": past(world),
        "deeds": world.deeds(),
        "blocks": world.heap.blocks.live(),
    }
