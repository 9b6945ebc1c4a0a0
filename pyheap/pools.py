"""One pool: blocks of one kind, and the order in which it gives them."""

from pyheap.sizes import blocks_in, check_pool_size


class Pool:
    """A pool of so many bytes; it has no blocks till it is drawn for a kind."""

    def __init__(self, pool_size):
        check_pool_size(pool_size)
        self.pool_size = pool_size
        self.kind = None
        self.block_count = 0
        self.least_never_out = 0
        self.came_back = []

    def draw_for(self, kind):
        """Make the empty pool one of this kind."""
        block_count = blocks_in(self.pool_size, kind)
        # Drawn again for its kind, it goes on with the blocks that came back.
        if kind == self.kind:
            return
        self.kind = kind
        self.block_count = block_count
        self.least_never_out = 0
        self.came_back = []

    def hand_out(self):
        """Give a block; None, where all are out."""
        if self.came_back:
            return self.came_back.pop()
        if self.is_full():
            return None
        block = self.least_never_out
        self.least_never_out += 1
        return block

    def hand_back(self, block):
        """Get a block back that is out."""
        self.came_back.append(block)

    def out_count(self):
        """How many blocks are out."""
        return self.least_never_out - len(self.came_back)

    def is_full(self):
        """Whether all blocks are out, so that the pool is in no row."""
        return self.out_count() == self.block_count

    def is_empty(self):
        """Whether no block is out, so that the pool may be drawn."""
        return self.out_count() == 0
