"""One pool: blocks of one kind, and the order in which it gives them."""

from pyheap.sizes import blocks_in, check_pool_size
from pyheap.supplies import Supply


class Pool:
    """A pool of so many bytes; it has no blocks till it is drawn for a kind."""

    def __init__(self, pool_size):
        check_pool_size(pool_size)
        self.pool_size = pool_size
        self.kind = None
        self.block_count = 0
        self.block_supply = Supply()

    def draw_for(self, kind):
        """Make the empty pool one of this kind."""
        block_count = blocks_in(self.pool_size, kind)
        # Drawn again for its kind, it goes on with the blocks that came back.
        if kind == self.kind:
            return
        self.kind = kind
        self.block_count = block_count
        self.block_supply = Supply()

    def hand_out(self):
        """Give a block; None, where all are out."""
        if self.is_full():
            return None
        return self.block_supply.draw()

    def hand_back(self, block):
        """Get a block back that is out."""
        self.block_supply.get_back(block)

    def out_count(self):
        """How many blocks are out."""
        return self.block_supply.out_count()

    def is_full(self):
        """Whether all blocks are out, so that the pool is in no row."""
        return self.out_count() == self.block_count

    def is_empty(self):
        """Whether no block is out, so that the pool may be drawn."""
        return self.out_count() == 0
