"""Blocks over many histories: beside a model, and by what 0.2 (a) and (b) say of each step."""

import unittest

from helping import Numbers, seen_blocks
from pyheap.blocks import Blocks


class ModelPool:
    """A pool of the model: it knows when each thing happened, and keeps no rows."""

    def __init__(self):
        self.kind = None
        self.many = 0
        self.out = set()
        self.back_at = {}
        self.empty_at = None
        self.joined_at = None

    def is_used(self):
        return 0 < len(self.out) < self.many

    def block(self):
        if self.back_at:
            return max(self.back_at, key=self.back_at.get)
        return min(set(range(self.many)) - self.out)


class ModelArena:
    def __init__(self, pool_count):
        self.pools = [ModelPool() for _ in range(pool_count)]
        self.changed_at = None

    def empties(self):
        return [at for at, pool in enumerate(self.pools) if not pool.out]

    def empty_pool(self):
        drawn = [at for at in self.empties() if self.pools[at].empty_at is not None]
        if drawn:
            return max(drawn, key=lambda at: self.pools[at].empty_at)
        return min(self.empties())


class Model:
    """Blocks by the words of 2.1 to 2.5: each order is found anew by when things happened."""

    def __init__(self, pool_bytes, pool_count):
        self.pool_bytes = pool_bytes
        self.pool_count = pool_count
        self.now = 0
        self.arenas = {}
        self.went_back_at = {}
        self.sizes = {}
        self.greats = 0

    def kind(self, size):
        return [kind for kind in range(32) if 16 * (kind + 1) >= max(size, 1)][0]

    def useful(self):
        row = [number for number in self.arenas if self.arenas[number].empties()]
        # Whatever changes an arena's number of empty pools puts it ahead of those with as many.
        return sorted(row, key=lambda at: (len(self.arenas[at].empties()), -self.arenas[at].changed_at))

    def used(self, kind):
        row = [
            (number, at) for number, arena in self.arenas.items() for at, pool in enumerate(arena.pools)
            if pool.is_used() and pool.kind == kind
        ]
        return sorted(row, key=lambda place: -self.pool(place).joined_at)

    def pool(self, place):
        return self.arenas[place[0]].pools[place[1]]

    def take(self, size):
        self.now += 1
        if size > 512:
            place = ("great", self.greats)
            self.greats += 1
        else:
            kind = self.kind(size)
            row = self.used(kind)
            where = row[0] if row else self.drawn(kind)
            pool = self.pool(where)
            block = pool.block()
            pool.out.add(block)
            pool.back_at.pop(block, None)
            place = (*where, block)
        self.sizes[place] = size
        return place

    def drawn(self, kind):
        if not self.useful():
            free = max(self.went_back_at, key=self.went_back_at.get, default=None)
            number = len(self.arenas) if free is None else free
            self.went_back_at.pop(number, None)
            self.arenas[number] = ModelArena(self.pool_count)
            self.arenas[number].changed_at = self.now
        number = self.useful()[0]
        arena = self.arenas[number]
        at = arena.empty_pool()
        arena.changed_at = self.now
        pool = arena.pools[at]
        if pool.kind != kind:
            pool.kind = kind
            pool.many = (self.pool_bytes - 48) // (16 * (kind + 1))
            pool.back_at = {}
        pool.joined_at = self.now
        return (number, at)

    def give(self, place):
        self.now += 1
        size = self.sizes.pop(place)
        if size <= 512:
            number, at, block = place
            pool = self.pool(place)
            if len(pool.out) == pool.many:
                pool.joined_at = self.now
            row = self.useful()
            pool.out.remove(block)
            pool.back_at[block] = self.now
            if not pool.out:
                self.emptied(number, pool, row)
        return size

    def emptied(self, number, pool, row):
        arena = self.arenas[number]
        pool.empty_at = self.now
        arena.changed_at = self.now
        if len(arena.empties()) == self.pool_count and number in row[:-1]:
            del self.arenas[number]
            self.went_back_at[number] = self.now

    def seen(self):
        small = sorted(pair for pair in self.sizes.items() if pair[1] <= 512)
        great = sorted(pair for pair in self.sizes.items() if pair[1] > 512)
        arenas = sorted(self.arenas)
        pools = {
            (arena, at): None for arena in range(max(arenas, default=0) + 2) for at in range(self.pool_count)
        }
        for arena in arenas:
            for at, pool in enumerate(self.arenas[arena].pools):
                if pool.out:
                    pools[arena, at] = (pool.kind, len(pool.out), pool.many)
        rooms = [16 * (self.kind(size) + 1) for place, size in small]
        return {
            "len": len(self.sizes),
            "live": small + great,
            "sizes": [size for place, size in small + great],
            "useful": [(number, len(self.arenas[number].empties())) for number in self.useful()],
            "arenas": arenas,
            "rows": [self.used(kind) for kind in range(32)],
            "pools": pools,
            "bytes": (
                sum(size for place, size in small), sum(rooms), len(arenas) * self.pool_count * self.pool_bytes,
            ),
        }


def history(numbers, sizes, length):
    """Deeds that go up and down: ("take", size), or ("give", which of those that are out)."""
    deeds = []
    out = 0
    rising = True
    for _ in range(length):
        if numbers.below(25) == 0:
            rising = not rising
        if out == 0 or numbers.below(5) < (4 if rising else 1):
            deeds.append(("take", numbers.one_of(sizes)))
            out += 1
        else:
            deeds.append(("give", numbers.below(out)))
            out -= 1
    return deeds


def histories():
    """Tuples (pool_bytes, pool_count, deeds)."""
    mixes = (
        (512,), (512, 400), (512, 500, 340, 341), (512, 496, 513), (480, 400, 300, 1000), (16, 100, 200, 500, 9999, 0),
    )
    pools = ((1072, 1), (1072, 2), (1072, 3), (1584, 2), (1072, 4))
    for at in range(60):
        numbers = Numbers(at)
        pool_bytes, pool_count = pools[at % 5]
        yield pool_bytes, pool_count, history(numbers, mixes[at % 6], 110)


class BesideTheModel(unittest.TestCase):
    def assert_same(self, pool_bytes, pool_count, deeds):
        blocks = Blocks(pool_bytes=pool_bytes, pool_count=pool_count)
        model = Model(pool_bytes, pool_count)
        out = []
        for word, told in deeds:
            if word == "take":
                place = blocks.take(told)
                self.assertEqual(place, model.take(told))
                out.append(place)
            else:
                place = out.pop(told)
                self.assertEqual(blocks.give(place), model.give(place))
            self.assertEqual(seen_blocks(blocks, pool_count), model.seen())
        return blocks

    def test_long_histories(self):
        for at, (pool_bytes, pool_count, deeds) in enumerate(histories()):
            with self.subTest(at=at):
                self.assert_same(pool_bytes, pool_count, deeds)

    def test_all_short_ways_from_two_full_arenas(self):
        start = [("take", 512)] * 8
        self.walk(start, 8, 4)

    def walk(self, deeds, out, left):
        if left == 0:
            self.assert_end(deeds)
            return
        for size in (512, 400):
            self.walk(deeds + [("take", size)], out + 1, left - 1)
        for at in range(out):
            self.walk(deeds + [("give", at)], out - 1, left - 1)

    def assert_end(self, deeds):
        blocks, model, out = Blocks(pool_bytes=1072, pool_count=2), Model(1072, 2), []
        for word, told in deeds:
            if word == "take":
                out.append(blocks.take(told))
                self.assertEqual(out[-1], model.take(told), deeds)
            else:
                place = out.pop(told)
                self.assertEqual(blocks.give(place), model.give(place), deeds)
        row = [(number, len(model.arenas[number].empties())) for number in model.useful()]
        self.assertEqual(blocks.useful_arenas(), row, deeds)
        self.assertEqual(blocks.used_pools(31), model.used(31), deeds)
        self.assertEqual(blocks.all_arenas(), sorted(model.arenas), deeds)


class EachStep(unittest.TestCase):
    """What 0.2 (a) and (b) say, seen from outside alone."""

    def bytes_of(self, blocks, pool_bytes):
        """The bytes (arena, byte) of all small blocks that are out, block by block."""
        for (*where, block), size in blocks.live():
            if len(where) == 2:
                arena, at = where
                kind, out, many = blocks.pool_at(arena, at)
                room = 16 * (kind + 1)
                self.assertGreaterEqual(room, size)
                self.assertLess(room - 16, max(size, 1))
                self.assertLess(block, many)
                start = 48 + block * room
                self.assertLessEqual(start + room, pool_bytes)
                yield {(arena, at * pool_bytes + byte) for byte in range(start, start + room)}

    def assert_apart(self, blocks, pool_bytes):
        spans = list(self.bytes_of(blocks, pool_bytes))
        self.assertEqual(len(set().union(*spans)), sum(map(len, spans)))
        self.assertEqual(blocks.bytes_out()[1], sum(map(len, spans)))

    def empty_pools(self, blocks, pool_count):
        return {
            arena: [at for at in range(pool_count) if blocks.pool_at(arena, at) is None]
            for arena in blocks.all_arenas()
        }

    def assert_rows(self, blocks, pool_count):
        empties = self.empty_pools(blocks, pool_count)
        row = blocks.useful_arenas()
        self.assertEqual(dict(row), {arena: len(at) for arena, at in empties.items() if at})
        self.assertEqual(len(row), len(dict(row)))
        self.assertEqual([many for arena, many in row], sorted(many for arena, many in row))
        used = []
        for arena in blocks.all_arenas():
            for at in range(pool_count):
                told = blocks.pool_at(arena, at)
                if told is not None and told[1] < told[2]:
                    used.append((told[0], (arena, at)))
        rows = [(kind, place) for kind in range(32) for place in blocks.used_pools(kind)]
        self.assertEqual(sorted(rows), sorted(used))

    def assert_given(self, blocks, place, pool_count):
        """The arena goes back just if this empties it, and it stands in the row, not as the last."""
        row = [arena for arena, many in blocks.useful_arenas()]
        arenas = blocks.all_arenas()
        blocks.give(place)
        gone = []
        if len(place) == 3 and place[0] in row[:-1]:
            if all(blocks.pool_at(place[0], at) is None for at in range(pool_count)):
                gone = [place[0]]
        self.assertEqual(blocks.all_arenas(), [arena for arena in arenas if arena not in gone])
        return gone

    def assert_taken(self, blocks, size):
        """A new pool is of the arena with the fewest empty ones; an arena comes only where there is none."""
        row = blocks.useful_arenas()
        arenas = blocks.all_arenas()
        rows = [blocks.used_pools(kind) for kind in range(32)]
        place = blocks.take(size)
        if len(place) == 3:
            kind = blocks.pool_at(*place[:2])[0]
            self.assertEqual(kind, (max(size, 1) - 1) // 16)
            if rows[kind]:
                self.assertEqual(place[:2], rows[kind][0])
            elif row:
                self.assertEqual(dict(row)[place[0]], min(many for arena, many in row))
                self.assertEqual(blocks.all_arenas(), arenas)
            else:
                self.assertEqual(blocks.all_arenas(), sorted([*arenas, place[0]]))
        return place

    def test_over_long_histories(self):
        gone = 0
        for at, (pool_bytes, pool_count, deeds) in enumerate(histories()):
            with self.subTest(at=at):
                blocks = Blocks(pool_bytes=pool_bytes, pool_count=pool_count)
                out = []
                for step, (word, told) in enumerate(deeds):
                    if word == "take":
                        out.append(self.assert_taken(blocks, told))
                        self.assertEqual(len(set(out)), len(out))
                    else:
                        gone += len(self.assert_given(blocks, out.pop(told), pool_count))
                    self.assertEqual(len(blocks), len(out))
                    self.assert_rows(blocks, pool_count)
                    if step % 10 == 0:
                        self.assert_apart(blocks, pool_bytes)
        # Without arenas that went back and came again these histories would show little.
        self.assertGreater(gone, 40)

    def test_the_same_history_is_told_the_same_again(self):
        for pool_bytes, pool_count, deeds in list(histories())[:10]:
            pasts = []
            for _ in range(2):
                blocks = Blocks(pool_bytes=pool_bytes, pool_count=pool_count)
                out = []
                for word, told in deeds:
                    if word == "take":
                        out.append(blocks.take(told))
                    else:
                        blocks.give(out.pop(told))
                    seen = seen_blocks(blocks, pool_count)
                    self.assertEqual(seen_blocks(blocks, pool_count), seen)
                pasts.append((out, seen))
            self.assertEqual(pasts[0], pasts[1])


if __name__ == "__main__":
    unittest.main()
