"""Blocks: small ones out of pools out of arenas, and great ones."""

from pyheap.arenas import Arenas
from pyheap.errors import NoBlock, NoNumber
from pyheap.sizes import KIND_COUNT, check_kind, check_pool_size, is_whole, is_whole_within, kind_of, room_of

GREAT = "great"
GREATEST_ARENA = 9999
GREATEST_POOL_COUNT = 64


def check_pool_count(thing):
    """Refuse what is no number of pools of an arena."""
    if not is_whole_within(thing, 1, GREATEST_POOL_COUNT):
        raise NoNumber("an arena has from 1 to 64 pools")


def is_small_place(thing):
    """Whether a thing is of the form of a small block's place."""
    return isinstance(thing, tuple) and len(thing) == 3 and all([is_whole(part) for part in thing])


def is_great_place(thing):
    """Whether a thing is of the form of a great block's place."""
    return isinstance(thing, tuple) and len(thing) == 2 and thing[0] == GREAT and is_whole(thing[1])


class Blocks:
    """Memory without arenas at first, of which blocks are taken, and to which they are given back."""

    def __init__(self, *, pool_bytes=4096, pool_count=16):
        check_pool_size(pool_bytes)
        check_pool_count(pool_count)
        self.pool_count = pool_count
        self.arenas = Arenas(pool_bytes, pool_count)
        self.used_rows = [[] for kind in range(KIND_COUNT)]
        self.sizes_out = {}
        self.next_great = 0

    def __len__(self):
        return len(self.sizes_out)

    def take(self, size):
        """Let a block of so many bytes out; told is where it lies."""
        kind = kind_of(size)
        place = self.draw_great() if kind is None else self.draw_small(kind)
        self.sizes_out[place] = size
        return place

    def draw_great(self):
        """Give a great block's place."""
        number = self.next_great
        self.next_great += 1
        return (GREAT, number)

    def draw_small(self, kind):
        """Give the place of a block of the first used pool of the kind."""
        row = self.used_rows[kind]
        if not row:
            self.add_used_pool(kind)
        arena, at = row[0]
        pool = self.arenas.pool_of(arena, at)
        block = pool.hand_out()
        if pool.is_full():
            del row[0]
        return (arena, at, block)

    def add_used_pool(self, kind):
        """Draw a pool for the kind, of which there is no used one."""
        arena, at = self.arenas.draw_pool()
        self.arenas.pool_of(arena, at).draw_for(kind)
        self.used_rows[kind].append((arena, at))

    def give(self, place):
        """Get a block back that is out; told is for how many bytes it was asked."""
        size = self.size_at(place)
        del self.sizes_out[place]
        if is_small_place(place):
            self.get_small(place)
        return size

    def get_small(self, place):
        """Put a small block back into its pool."""
        arena, at, block = place
        pool = self.arenas.pool_of(arena, at)
        row = self.used_rows[pool.kind]
        if pool.is_full():
            row.insert(0, (arena, at))
        pool.hand_back(block)
        if pool.is_empty():
            row.remove((arena, at))
            self.arenas.get_empty_pool(arena, at)

    def live(self):
        """A list of tuples (place, size) of all blocks that are out, great ones last."""
        pairs = list(self.sizes_out.items())
        # Numbers and the word of a great place cannot be put in one order.
        small = sorted([pair for pair in pairs if is_small_place(pair[0])])
        great = sorted([pair for pair in pairs if is_great_place(pair[0])])
        return small + great

    def size_at(self, place):
        """For how many bytes the block was asked."""
        # To a dict, truths are the same keys as 0 and 1, so the form is looked at first.
        if not is_small_place(place) and not is_great_place(place):
            raise NoBlock(place)
        if place not in self.sizes_out:
            raise NoBlock(place)
        return self.sizes_out[place]

    def useful_arenas(self):
        """The row of useful arenas: a list of tuples (arena, how many pools are empty)."""
        return self.arenas.useful_pairs()

    def all_arenas(self):
        """A rising list of the numbers of all arenas that are there."""
        return self.arenas.numbers()

    def used_pools(self, kind):
        """The row of used pools of the kind: a list of tuples (arena, pool)."""
        check_kind(kind)
        return list(self.used_rows[kind])

    def pool_at(self, arena, pool):
        """A tuple (kind, how many blocks are out, how many it has); None, where none is out."""
        if not is_whole_within(arena, 0, GREATEST_ARENA):
            raise NoNumber("an arena's number is a whole one from 0 to 9999")
        if not is_whole_within(pool, 0, self.pool_count - 1):
            raise NoNumber("no number of a pool of an arena")
        if not self.arenas.has_arena(arena):
            return None
        found = self.arenas.pool_of(arena, pool)
        if found.is_empty():
            return None
        return (found.kind, found.out_count(), found.block_count)

    def bytes_out(self):
        """How many bytes were asked for in small blocks, these have, and all arenas have."""
        sizes = [size for place, size in self.sizes_out.items() if is_small_place(place)]
        rooms = [room_of(kind_of(size)) for size in sizes]
        return (sum(sizes), sum(rooms), self.arenas.byte_count())
