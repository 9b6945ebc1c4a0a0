"""Memory: where the things of a world lie."""

from pyheap.blocks import is_great_place, is_small_place
from pyheap.errors import NoBlock
from pyheap.sizes import is_whole_within, kind_of
from pyheap.watching import alive, thing_at

GREATEST_IN_PLACE = 1000000000


def can_be_place(thing):
    """Whether a thing is a tuple of three whole numbers, or of "great" and one, none of them too great."""
    if is_small_place(thing):
        numbers = thing
    elif is_great_place(thing):
        numbers = thing[1:]
    else:
        return False
    return all([is_whole_within(number, 0, GREATEST_IN_PLACE) for number in numbers])


def bytes_of(world):
    """How many bytes were asked for in small blocks, these have, and all arenas have."""
    return world.heap.blocks.bytes_out()


def layout(world):
    """A rising list of tuples (arena, pool, block, number) of all things in small blocks."""
    things = [thing_at(world, number) for number in alive(world)]
    return sorted([(*thing.block, thing.number) for thing in things if is_small_place(thing.block)])


def owner(world, place):
    """The number of the thing whose block lies at a place; None without."""
    if not can_be_place(place):
        raise NoBlock(place)
    owners = {thing_at(world, number).block: number for number in alive(world)}
    return owners.get(place)


def pool_mates(world, number):
    """A list of the numbers of all things in blocks of a thing's pool, by blocks; none of a great block."""
    # The two parts of a great block's place are not those of any pool.
    where = thing_at(world, number).block[:2]
    return [other for arena, pool, block, other in layout(world) if (arena, pool) == where]


def arenas_of(world):
    """A rising list of tuples (arena, how many pools are empty, whether there are such)."""
    empty = dict(world.heap.blocks.useful_arenas())
    return [(arena, empty.get(arena, 0), arena in empty) for arena in world.heap.blocks.all_arenas()]


def kinds_of(world):
    """A rising list of tuples (kind, how many things have a block of it)."""
    kinds = [kind_of(thing_at(world, number).byte_count()) for number in alive(world)]
    small = [kind for kind in kinds if kind is not None]
    return [(kind, small.count(kind)) for kind in sorted(set(small))]
