"""Heaps: all that is in a world at one moment, and what is still to be done there."""

from pyheap.blocks import Blocks
from pyheap.errors import NoNumber
from pyheap.sizes import is_whole_within
from pyheap.things import LEAF

LIST_COUNT = 3
OLDEST = 2
FROZEN = 3
# What a collection found lost is in no list that is told, but is kept in order like these.
LOST = 4
FIRST_BOUNDS = (700, 10, 10)
LEAST_NESTING = 2
GREATEST_NESTING = 50


def check_nesting(thing):
    """Refuse what is no number of things that may die round another."""
    if not is_whole_within(thing, LEAST_NESTING, GREATEST_NESTING):
        raise NoNumber("nesting is a whole number from 2 to 50")


class Heap:
    """Things, names, lists and counters, none at first.

    What happens by itself is done task by task off the agenda, the one that was planned last first, and
    not by calls within calls: things that die through one another may be more than Python can nest.
    """

    def __init__(self, *, pool_bytes, pool_count, nesting):
        self.blocks = Blocks(pool_bytes=pool_bytes, pool_count=pool_count)
        check_nesting(nesting)
        self.nesting = nesting
        self.things = {}
        self.next_number = 0
        self.names = {}
        self.lists = [{} for place in range(LOST + 1)]
        self.events = []
        self.agenda = []
        self.nested_count = 0
        self.aside = []
        self.counts = [0] * LIST_COUNT
        self.bounds = FIRST_BOUNDS
        self.is_on = True
        # The list up to which a collection goes on; None while there is none.
        self.upto = None
        self.found = 0
        self.tours_done = [0] * LIST_COUNT
        self.tours_found = [0] * LIST_COUNT
        self.kept_middle = 0
        self.kept_oldest = 0

    def plan(self, tasks):
        """Put tasks, tuples (word, subject), on the agenda, so that the first one is done first."""
        self.agenda.extend(tasks[::-1])

    def hold(self, number):
        """Hold a thing once more."""
        thing = self.things[number]
        thing.count += 1

    def track(self, number, place):
        """Put a thing at the end of a list, out of the one in which it is."""
        self.untrack(number)
        thing = self.things[number]
        thing.place = place
        self.lists[place][number] = True

    def untrack(self, number):
        """Take a thing out of the list in which it is, if it is in one."""
        thing = self.things[number]
        if thing.place is not None:
            del self.lists[thing.place][number]
            thing.place = None

    def is_lost(self, number):
        """Whether the collection that goes on found this thing lost, and it did not die nor rise since."""
        return number in self.lists[LOST]

    def lose_target(self, number):
        """Let a weak thing and its target, if it has one, know each other no more."""
        thing = self.things[number]
        if thing.target is not None:
            self.things[thing.target].watchers.remove(number)
            thing.target = None

    def add_thing(self, thing):
        """Let a thing come."""
        thing.block = self.blocks.take(thing.byte_count())
        self.things[thing.number] = thing
        self.next_number += 1
        for number in thing.held_numbers():
            self.hold(number)
        if thing.target is not None:
            self.things[thing.target].watchers.insert(0, thing.number)
        if thing.form != LEAF:
            self.track(thing.number, 0)

    def drop_thing(self, number):
        """Let a thing that holds nothing, and is not tracked, be no more."""
        self.lose_target(number)
        thing = self.things[number]
        self.blocks.give(thing.block)
        del self.things[number]
        self.events.append(("free", number))
        if thing.form != LEAF:
            self.counts[0] = max(0, self.counts[0] - 1)
