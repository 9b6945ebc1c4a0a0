"""What several test files need: things to hand in, a check of refusals, and numbers for long histories."""

import copy
import unittest

from pyheap.errors import HeapError
from pyheap.watching import (
    alive, called, count_of, counters, form_of, listed, past, place_of, slots_of, target_of, tours, was_asked,
    watchers_of,
)
from pyheap.world import World

NO_LISTS = (
    None, True, False, 0, 1, -1, 10 ** 5000, "", "a", "great", "[]", (), (0,), (1, 2, 3), ([],), ([0], [1]),
    (((((((),),),),),),), ((None, True), ("a", [0])),
)
NO_WHOLE_NUMBERS = (
    True, False, None, "", "0", "16", "1072", "abc", [], [0], [16], [1072], (), (0,), (16,), (1072,),
    [[[[[[0]]]]]], ((((((0,),),),),),), [(None, [True, "a"])],
)
NO_NAMES = (
    "", "abcdefg", "abcdefghij", "A", "aB", "a1", "1", " ", " a", "a ", "a b", "a\n", "\n", "a_", "-", ".", "\u00e4",
    "a\u00df", "\u0430", "a" * 5000, True, False, None, 0, 1, 10 ** 5000, [], ["a"], (), ("a",), ("a", "b"),
    [[[[[["a"]]]]]], (((((("a",),),),),),),
)
DRAWN_NAMES = ("a", "b", "c", "d", "e", "f", "g", "h", "i", "jj", "kkkkkk")
REFUSED_DEEDS = (
    ("let", "a", "x"), ("let", "A", "a"), ("forget", "x"), ("put", "a", 8, "a"), ("put", "a", 0, "x"),
    ("put", "a", True, "b"), ("take", "a", "b", 8), ("take", "", "b", 0), ("take", "a", "b", None), ("ask", "a", "x"),
    ("ask", 0, "a"), ("weaken", "a", "b", (("save", "a"),)), ("weaken", "a", "x", ()), ("weaken", "a", "b", ["fail"]),
    ("collect", 3), ("collect", False), ("bounds", 1, 1000, 1), ("bounds", 1, 1, None), ("switch", 1), ("switch", None),
    ("make", "a", "weak", (), (), 0), ("make", "a", "row", ("x",), (), 0), ("make", "a", "leaf", (None,), (), 0),
    ("make", "a", "row", (), (("clear", 8),), 0), ("make", "a", "row", (), (), 1), ("make", "a", "leaf", (), (), 2001),
    ("make", "a1", "leaf", (), (), 0), ("make", "a", "row", (None,) * 9, (), 0),
)
# Python writes no number of 5000 figures as text, so each subTest names a thing
# by where it stands in its table.
FAR_OFF = (-10 ** 30, -16, 10 ** 30, -10 ** 5000, 10 ** 5000)


class Refusing(unittest.TestCase):
    def assert_refused(self, refusal, function, *things, **named):
        before = copy.deepcopy((things, named))
        with self.assertRaises(HeapError) as caught:
            function(*things, **named)
        self.assertEqual(type(caught.exception), refusal)
        self.assertEqual((things, named), before)
        return caught.exception


class Numbers:
    """The same row of numbers in each run, on each Python."""

    def __init__(self, start):
        self.state = start * 2654435761 + 12345

    def below(self, bound):
        self.state = (self.state * 6364136223846793005 + 1442695040888963407) % 2 ** 64
        return (self.state >> 33) % bound

    def one_of(self, things):
        return things[self.below(len(things))]

    def mixed(self, things):
        left = list(things)
        return [left.pop(self.below(len(left))) for _ in range(len(left))]


def seen_blocks(blocks, pool_count):
    """All that is told of blocks."""
    live = blocks.live()
    arenas = blocks.all_arenas()
    return {
        "len": len(blocks),
        "live": live,
        "sizes": [blocks.size_at(place) for place, size in live],
        "useful": blocks.useful_arenas(),
        "arenas": arenas,
        "rows": [blocks.used_pools(kind) for kind in range(32)],
        "pools": {
            (arena, pool): blocks.pool_at(arena, pool)
            for arena in range(max(arenas, default=0) + 2) for pool in range(pool_count)
        },
        "bytes": blocks.bytes_out(),
    }


def do(world, deed):
    """Do a deed, as deeds() tells it; told is what the world tells."""
    word, *parts = deed
    if word == "make":
        name, form, holding, stepping, extra = parts
        return world.make(name, form, holding=holding, stepping=stepping, extra=extra)
    if word == "weaken":
        name, other, stepping = parts
        return world.weaken(name, other, stepping=stepping)
    if word == "bounds":
        return world.set_bounds(*parts)
    return getattr(world, word)(*parts)


def outcome(function, *things, **named):
    """A tuple of what is told, and of the refusal with its fields; None for the one that there is not."""
    try:
        return (function(*things, **named), None)
    except HeapError as refusal:
        return (None, (type(refusal).__name__, vars(refusal)))


def block_of(world, number):
    return world.heap.things[number].block


def seen_thing(world, number):
    """All that is told of a thing."""
    form = form_of(world, number)
    return {
        "form": form,
        "slots": slots_of(world, number),
        "count": count_of(world, number),
        "place": place_of(world, number),
        "target": target_of(world, number) if form == "weak" else None,
        "watchers": watchers_of(world, number),
        "asked": was_asked(world, number),
        "block": block_of(world, number),
    }


def seen_world(world):
    """All that is told of a world."""
    return {
        "len": len(world),
        "repr": repr(world),
        "names": called(world),
        "things": {number: seen_thing(world, number) for number in alive(world)},
        "lists": [listed(world, place) for place in range(4)],
        "counters": counters(world),
        "tours": tours(world),
        "past": past(world),
        "deeds": world.deeds(),
        "blocks": world.heap.blocks.live(),
    }


class Drawing:
    """Deeds drawn by what is there: rings, steps, weak things, collections, and some that are refused."""

    def __init__(self, start, *, steps=True, freezing=True):
        self.numbers = Numbers(start)
        self.has_steps = steps
        self.freezing = freezing
        # With such bounds collections come by themselves all the time.
        self.waiting = [("bounds", 1 + start % 4, start % 3, start % 2)] if start % 3 else []

    def name(self):
        return self.numbers.one_of(DRAWN_NAMES)

    def known(self, world, *forms):
        """A name that names something, of these forms if there is such a one; any name where there is none."""
        names = [name for name, number in called(world) if not forms or form_of(world, number) in forms]
        return self.numbers.one_of(names) if names else self.name()

    def steps(self, words):
        if not self.has_steps or self.numbers.below(2):
            return ()
        return tuple(self.step(self.numbers.one_of(words)) for _ in range(1 + self.numbers.below(3)))

    def step(self, word):
        if word in ("fail", "collect"):
            return (word,)
        return (word, self.numbers.below(4) if word == "clear" else self.name())

    def make(self, world):
        form = self.numbers.one_of(("leaf", "row", "row", "row", "fixed"))
        many = 0 if form == "leaf" else 1 + self.numbers.below(3) - (self.numbers.below(6) == 0)
        holding = tuple(None if self.numbers.below(4) == 0 else self.known(world) for _ in range(many))
        if not called(world):
            holding = (None,) * many
        extra = self.numbers.one_of((0, 1, 17, 600)) if form == "leaf" else 0
        steps = self.steps(("save", "save", "forget", "forget", "clear", "clear", "fail", "collect"))
        return ("make", self.name(), form, holding, steps, extra)

    def put(self, world):
        name = self.known(world, "row")
        slots = [slots_of(world, number) for other, number in called(world) if other == name]
        at = self.numbers.below(max(1, len(slots[0]))) if slots else 0
        return ("put", name, at, self.numbers.one_of((None, self.known(world), self.known(world), name)))

    def take(self, world):
        name = self.known(world, "row", "fixed")
        return ("take", self.name(), name, self.numbers.below(3))

    def lost_ring(self, world):
        """Deeds that lose a ring of some rows, with weak things, steps and other things on it."""
        names = self.numbers.mixed(DRAWN_NAMES)
        rows, others = names[:1 + self.numbers.below(4)], names[4:]
        words = ("save", "clear", "clear", "clear", "forget", "fail", "collect")
        deeds = [("make", name, "row", (None, None), self.steps(words), 0) for name in rows]
        deeds += [("put", name, 0, rows[at - 1]) for at, name in enumerate(rows)]
        for name in rows:
            draw = self.numbers.below(5)
            if draw == 0:
                deeds.append(("make", others[0], "fixed", (name, self.numbers.one_of(rows)), self.steps(words), 0))
                deeds += [("put", name, 1, others[0]), ("forget", others[0])]
            if draw == 1:
                deeds.append(("weaken", others[1], name, self.steps(("forget", "forget", "fail", "collect"))))
            if draw == 2:
                deeds.append(("weaken", others[2], name, self.steps(("forget", "forget", "fail", "collect"))))
                deeds += [("put", self.numbers.one_of(rows), 1, others[2]), ("forget", others[2])]
            if draw == 3:
                deeds.append(("put", name, 1, self.numbers.one_of(names)))
        deeds += [("forget", name) for name in rows]
        if self.numbers.below(3):
            deeds.append(("collect", self.numbers.below(3)))
        return deeds

    def deed(self, world):
        if not self.waiting and self.numbers.below(20) == 0:
            self.waiting = self.lost_ring(world)
        if self.waiting:
            return self.waiting.pop(0)
        draw = self.numbers.below(100)
        if draw < 28:
            return self.make(world)
        if draw < 51:
            return self.put(world)
        if draw < 65:
            return ("forget", self.known(world))
        if draw < 67:
            return ("let", self.name(), self.known(world))
        if draw < 69:
            return self.take(world)
        if draw < 82:
            words = ("forget", "forget", "forget", "collect", "fail")
            return ("weaken", self.name(), self.known(world, "leaf", "row", "fixed"), self.steps(words))
        if draw < 85:
            return ("ask", self.name(), self.known(world, "weak"))
        if draw < 92:
            return ("collect", self.numbers.below(3))
        if draw < 94:
            return ("bounds", self.numbers.below(6), self.numbers.below(3), self.numbers.below(3))
        if draw < 95:
            return ("switch", self.numbers.below(3) > 0)
        if draw < 97 and self.freezing:
            return self.numbers.one_of((("freeze",), ("thaw",), ("thaw",)))
        return self.numbers.one_of(REFUSED_DEEDS)


def made_with(at):
    pool_bytes, pool_count = ((1072, 1), (1072, 2), (4096, 16), (1088, 3))[at % 4]
    return {"pool_bytes": pool_bytes, "pool_count": pool_count, "nesting": (2, 3, 50, 2, 4)[at % 5]}


def drawn_world(at, length, **named):
    """A world with so many deeds, some of them refused."""
    world = World(**made_with(at))
    drawing = Drawing(at, **named)
    for _ in range(length):
        outcome(do, world, drawing.deed(world))
    return world
