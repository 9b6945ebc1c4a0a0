"""Coming: a new thing gets its block, its place in a list and its name."""

from pyheap.collecting import list_that_is_due
from pyheap.dying import give_name
from pyheap.running import run
from pyheap.things import LEAF


def bring(heap, thing, name):
    """Let a new thing come, behind the collection that may come first, and give it its name."""
    needed = thing.held_numbers() if thing.target is None else [thing.target]
    # Till it has its name, steps may forget all other names of what it needs, so that is held here.
    for number in needed:
        heap.hold(number)
    if thing.form != LEAF:
        count_new(heap)
    heap.add_thing(thing)
    give_name(heap, name, thing.number)
    run(heap)
    heap.plan([("let go", number) for number in needed])
    run(heap)


def count_new(heap):
    """Count a new thing that is tracked, and do the collection that is due by that."""
    heap.counts[0] += 1
    upto = list_that_is_due(heap)
    if upto is not None:
        heap.plan([("collect", upto)])
        run(heap)
