"""Histories: worlds played again from their deeds, and how two worlds part."""

from pyheap.errors import HeapError, NoDeeds
from pyheap.watching import past
from pyheap.world import World


def do_make(world, name, form, holding, stepping, extra):
    """Do a deed of making."""
    world.make(name, form, holding=holding, stepping=stepping, extra=extra)


def do_let(world, name, other):
    """Do a deed of letting."""
    world.let(name, other)


def do_forget(world, name):
    """Do a deed of forgetting."""
    world.forget(name)


def do_put(world, name, at, other):
    """Do a deed of putting."""
    world.put(name, at, other)


def do_take(world, name, other, at):
    """Do a deed of taking."""
    world.take(name, other, at)


def do_weaken(world, name, other, stepping):
    """Do a deed of weakening."""
    world.weaken(name, other, stepping=stepping)


def do_ask(world, name, other):
    """Do a deed of asking."""
    world.ask(name, other)


def do_collect(world, upto):
    """Do a deed of collecting."""
    world.collect(upto)


def do_bounds(world, first, second, third):
    """Do a deed of setting bounds."""
    world.set_bounds(first, second, third)


def do_switch(world, is_on):
    """Do a deed of switching."""
    world.switch(is_on)


def do_freeze(world):
    """Do a deed of freezing."""
    world.freeze()


def do_thaw(world):
    """Do a deed of thawing."""
    world.thaw()


ACTIONS = {
    "make": do_make,
    "let": do_let,
    "forget": do_forget,
    "put": do_put,
    "take": do_take,
    "weaken": do_weaken,
    "ask": do_ask,
    "collect": do_collect,
    "bounds": do_bounds,
    "switch": do_switch,
    "freeze": do_freeze,
    "thaw": do_thaw,
}
PART_COUNTS = {
    "make": 5,
    "let": 2,
    "forget": 1,
    "put": 3,
    "take": 3,
    "weaken": 3,
    "ask": 2,
    "collect": 1,
    "bounds": 3,
    "switch": 1,
    "freeze": 0,
    "thaw": 0,
}


def is_deed(thing):
    """Whether a thing is a tuple of a deed's word and of as many parts as this has, whatever these are."""
    if not isinstance(thing, tuple) or len(thing) == 0:
        return False
    word = thing[0]
    return isinstance(word, str) and PART_COUNTS.get(word) == len(thing) - 1


def do_deed(world, deed):
    """Do a deed in a world; a refusal of it is NoDeeds."""
    word, *parts = deed
    action = ACTIONS[word]
    try:
        action(world, *parts)
    except HeapError:
        raise NoDeeds("a deed is refused") from None


def replayed(deeds, *, pool_bytes=4096, pool_count=16, nesting=50):
    """A world in which these deeds were done one behind the other."""
    world = World(pool_bytes=pool_bytes, pool_count=pool_count, nesting=nesting)
    if not isinstance(deeds, list) or not all([is_deed(deed) for deed in deeds]):
        raise NoDeeds("no list of deeds")
    for deed in deeds:
        do_deed(world, deed)
    return world


def played_like(world, deeds):
    """A world that is made with the numbers of another, in which these deeds were done."""
    pool_bytes, pool_count, nesting = world.made_with
    return replayed(deeds, pool_bytes=pool_bytes, pool_count=pool_count, nesting=nesting)


def twin(world):
    """Another world, in which all deeds of this one were done."""
    return played_like(world, world.deeds())


def undone(world):
    """Another world, in which all deeds of this one but the last were done."""
    deeds = world.deeds()
    if not deeds:
        raise NoDeeds("no deed was done")
    return played_like(world, deeds[:-1])


def slots_at(world, number):
    """What the slots of a thing hold; None where there is no such thing."""
    thing = world.heap.things.get(number)
    return None if thing is None else thing.slots


def unlike(one, other):
    """A rising list of the numbers of all things that not both worlds have, or that hold not the same in both."""
    numbers = sorted(set(list(one.heap.things) + list(other.heap.things)))
    return [number for number in numbers if slots_at(one, number) != slots_at(other, number)]


def parting(one, other):
    """The number of the first event of which the pasts of two worlds are not the same; None without."""
    events, others = past(one), past(other)
    pairs = list(zip(events, others))
    for at, (event, another) in enumerate(pairs):
        if event != another:
            return at
    if len(events) != len(others):
        return len(pairs)
    return None
