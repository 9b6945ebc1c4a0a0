"""Sizes of blocks and of pools, and the kinds of small blocks."""

from pyheap.errors import NoNumber, NoSize

GREATEST_SIZE = 9999
GREATEST_SMALL_SIZE = 512
KIND_COUNT = 32
KIND_STEP = 16
LEAST_POOL_SIZE = 1072
GREATEST_POOL_SIZE = 4096
POOL_STEP = 16
POOL_HEAD = 48


def is_whole(thing):
    """Whether a thing is a whole number."""
    # Truths are ints to Python, but the document counts them as no numbers.
    return isinstance(thing, int) and not isinstance(thing, bool)


def is_whole_within(thing, least, greatest):
    """Whether a thing is a whole number from least to greatest."""
    return is_whole(thing) and least <= thing <= greatest


def check_size(thing):
    """Refuse what is no size."""
    if not is_whole_within(thing, 0, GREATEST_SIZE):
        raise NoSize("a size is a whole number from 0 to 9999")


def check_kind(thing):
    """Refuse what is no kind."""
    if not is_whole_within(thing, 0, KIND_COUNT - 1):
        raise NoNumber("a kind is a whole number from 0 to 31")


def check_pool_size(thing):
    """Refuse what is no pool size."""
    if not is_whole_within(thing, LEAST_POOL_SIZE, GREATEST_POOL_SIZE) or thing % POOL_STEP != 0:
        raise NoSize("a pool size is a whole number from 1072 to 4096 that 16 divides")


def kind_of(size):
    """The least kind with room for so many bytes; None for a great size."""
    check_size(size)
    if size > GREATEST_SMALL_SIZE:
        return None
    # Even a block of no bytes needs a place of its own, so it has room for one.
    return (max(size, 1) - 1) // KIND_STEP


def room_of(kind):
    """How many bytes a block of the kind has."""
    check_kind(kind)
    return KIND_STEP * (kind + 1)


def blocks_in(pool_size, kind):
    """How many blocks of the kind a pool of this size has."""
    check_pool_size(pool_size)
    return (pool_size - POOL_HEAD) // room_of(kind)
