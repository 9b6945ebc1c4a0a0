"""Arenas: the pools of each, and the row of those that have empty ones."""

from pyheap.pools import Pool
from pyheap.supplies import Supply


class Arena:
    """An arena with this number; all its pools are empty, and were never drawn."""

    def __init__(self, number, pool_bytes, pool_count):
        self.number = number
        self.pools = [Pool(pool_bytes) for at in range(pool_count)]
        self.pool_supply = Supply()

    def draw_pool(self):
        """Give the number of an empty pool, of which there is one."""
        return self.pool_supply.draw()

    def get_empty_pool(self, at):
        """Get a pool back that was drawn."""
        self.pool_supply.get_back(at)

    def empty_count(self):
        """How many pools are empty."""
        return len(self.pools) - self.pool_supply.out_count()


class Arenas:
    """All arenas that are there, and the row of useful ones; at first there is none."""

    def __init__(self, pool_bytes, pool_count):
        self.pool_bytes = pool_bytes
        self.pool_count = pool_count
        self.by_number = {}
        self.useful_row = []
        self.number_supply = Supply()

    def draw_pool(self):
        """Give a tuple (arena, pool) of an empty pool of the first useful arena."""
        if not self.useful_row:
            self.add_arena()
        arena = self.by_number[self.useful_row[0]]
        at = arena.draw_pool()
        if arena.empty_count() == 0:
            del self.useful_row[0]
        return (arena.number, at)

    def get_empty_pool(self, number, at):
        """Get a pool back that was drawn; its arena may go back by that."""
        arena = self.by_number[number]
        # An arena that had no empty pool stands in no row, so with a single pool it never goes back.
        is_in_row = arena.empty_count() > 0
        arena.get_empty_pool(at)
        if not is_in_row:
            self.useful_row.insert(0, number)
        elif arena.empty_count() == self.pool_count and self.useful_row[-1] != number:
            self.drop_arena(number)
        else:
            self.move_in_row(arena)

    def add_arena(self):
        """Let an arena come, alone in the row, which is empty."""
        number = self.number_supply.draw()
        self.by_number[number] = Arena(number, self.pool_bytes, self.pool_count)
        self.useful_row.append(number)

    def drop_arena(self, number):
        """Let an arena of the row go back."""
        self.useful_row.remove(number)
        del self.by_number[number]
        self.number_supply.get_back(number)

    def move_in_row(self, arena):
        """Put an arena of the row behind all that have fewer empty pools, ahead of all others."""
        self.useful_row.remove(arena.number)
        many = arena.empty_count()
        at = 0
        while at < len(self.useful_row) and self.by_number[self.useful_row[at]].empty_count() < many:
            at += 1
        self.useful_row.insert(at, arena.number)

    def pool_of(self, number, at):
        """The pool of an arena that is there."""
        return self.by_number[number].pools[at]

    def has_arena(self, number):
        """Whether an arena with this number is there."""
        return number in self.by_number

    def useful_pairs(self):
        """The row, as tuples (arena, how many pools are empty)."""
        return [(number, self.by_number[number].empty_count()) for number in self.useful_row]

    def numbers(self):
        """A rising list of the numbers of all arenas."""
        return sorted(self.by_number)

    def byte_count(self):
        """How many bytes all pools of all arenas have."""
        return len(self.by_number) * self.pool_count * self.pool_bytes
