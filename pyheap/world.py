"""Worlds: things that hold one another, by names, and what is done to them, deed by deed."""

from pyheap.coming import bring
from pyheap.dying import fill_slot, forget_name, give_name
from pyheap.errors import Bare, Gone, NoForm, NoNumber, NoRow, NoSize, NoSlot, NoTarget, NoThing, NotWeak
from pyheap.heaps import FROZEN, LIST_COUNT, OLDEST, Heap
from pyheap.names import check_name, is_name
from pyheap.running import run
from pyheap.sizes import is_whole_within
from pyheap.steps import check_steps
from pyheap.things import FIXED, LEAF, ROW, WEAK, Thing

GREATEST_SLOT_COUNT = 8
GREATEST_EXTRA = 2000
GREATEST_BOUND = 999


def check_form(thing):
    """Refuse what is no form that can be made."""
    if thing not in (LEAF, ROW, FIXED):
        raise NoForm("a form that can be made is leaf, row or fixed")


def check_extra(thing, form):
    """Refuse what is no number of extra bytes for the form."""
    if not is_whole_within(thing, 0, GREATEST_EXTRA if form == LEAF else 0):
        raise NoSize("a leaf has 0 to 2000 extra bytes, any other thing none")


def check_list_by_age(thing):
    """Refuse what is no list up to which a collection may go."""
    if not is_whole_within(thing, 0, OLDEST):
        raise NoNumber("a collection goes up to list 0, 1 or 2")


def check_truth(thing):
    """Refuse what is no truth."""
    if not isinstance(thing, bool):
        raise NoNumber("collections are switched by a truth")


class World:
    """A world without things and names at first."""

    def __init__(self, *, pool_bytes=4096, pool_count=16, nesting=50):
        self.heap = Heap(pool_bytes=pool_bytes, pool_count=pool_count, nesting=nesting)
        self.made_with = (pool_bytes, pool_count, nesting)
        self.deeds_done = []

    def __eq__(self, other):
        return (
            isinstance(other, World)
            and self.made_with == other.made_with
            and self.deeds_done == other.deeds_done
        )

    def __len__(self):
        return len(self.heap.things)

    def __repr__(self):
        return f"World({len(self.heap.things)}, {len(self.heap.names)}, {self.heap.blocks.bytes_out()[0]})"

    def make(self, name, form, *, holding=(), stepping=(), extra=0):
        """Let a new leaf, row or fixed thing come; told is its number."""
        check_name(name)
        check_form(form)
        self.check_holding(holding, form)
        check_steps(stepping, form)
        check_extra(extra, form)
        slots = [None if other is None else self.heap.names[other] for other in holding]
        thing = Thing(self.heap.next_number, form, slots=slots, steps=stepping, extra=extra)
        bring(self.heap, thing, name)
        self.deeds_done.append(("make", name, form, holding, stepping, extra))
        return thing.number

    def let(self, name, other):
        """Give a name to what another one names; told is its number."""
        check_name(name)
        number = self.thing_called(other).number
        self.call_so(name, number)
        self.deeds_done.append(("let", name, other))
        return number

    def forget(self, name):
        """Let a name name nothing; told is how many things were freed with that."""
        self.thing_called(name)
        many = len(self.heap.things)
        forget_name(self.heap, name)
        run(self.heap)
        self.deeds_done.append(("forget", name))
        return many - len(self.heap.things)

    def put(self, name, at, other):
        """Let a slot of a row hold another thing, or nothing; told is how many things were freed with that."""
        thing = self.thing_called(name)
        if thing.form != ROW:
            raise NoRow(thing.form)
        self.check_slot(thing, at)
        new = None if other is None else self.thing_called(other).number
        many = len(self.heap.things)
        fill_slot(self.heap, thing.number, at, new)
        run(self.heap)
        self.deeds_done.append(("put", name, at, other))
        return many - len(self.heap.things)

    def take(self, name, other, at):
        """Give a name to what is in a slot of what another one names; told is its number."""
        check_name(name)
        thing = self.thing_called(other)
        self.check_slot(thing, at)
        number = thing.slots[at]
        if number is None:
            raise Bare("nothing is in this slot")
        self.call_so(name, number)
        self.deeds_done.append(("take", name, other, at))
        return number

    def weaken(self, name, other, *, stepping=()):
        """Let a new weak thing come whose target is what another name names; told is its number."""
        check_name(name)
        target = self.thing_called(other)
        if target.form == WEAK:
            raise NoTarget("a weak thing is no target")
        check_steps(stepping, WEAK)
        thing = Thing(self.heap.next_number, WEAK, steps=stepping, target=target.number)
        bring(self.heap, thing, name)
        self.deeds_done.append(("weaken", name, other, stepping))
        return thing.number

    def ask(self, name, other):
        """Give a name to the target of the weak thing that another one names; told is its number."""
        check_name(name)
        thing = self.thing_called(other)
        if thing.form != WEAK:
            raise NotWeak("only a weak thing has a target")
        number = thing.target
        if number is None:
            raise Gone("the target is gone")
        self.call_so(name, number)
        self.deeds_done.append(("ask", name, other))
        return number

    def collect(self, upto=2):
        """Do a collection up to a list; told is how many things it found."""
        check_list_by_age(upto)
        self.heap.plan([("collect", upto)])
        run(self.heap)
        self.deeds_done.append(("collect", upto))
        return self.heap.found

    def set_bounds(self, first, second, third):
        """Set the bounds of the three counters."""
        bounds = (first, second, third)
        if not all([is_whole_within(bound, 0, GREATEST_BOUND) for bound in bounds]):
            raise NoNumber("a bound is a whole number from 0 to 999")
        heap = self.heap
        heap.bounds = bounds
        self.deeds_done.append(("bounds", first, second, third))

    def switch(self, is_on):
        """Let collections come by themselves, or not; told is whether they did."""
        check_truth(is_on)
        heap = self.heap
        was_on = heap.is_on
        heap.is_on = is_on
        self.deeds_done.append(("switch", is_on))
        return was_on

    def freeze(self):
        """Let all tracked things be frozen; told is how many are so now."""
        for place in range(LIST_COUNT):
            self.move_all(place, FROZEN)
            self.heap.counts[place] = 0
        self.deeds_done.append(("freeze",))
        return len(self.heap.lists[FROZEN])

    def thaw(self):
        """Let what is frozen be among the oldest; told is how many these were."""
        many = len(self.heap.lists[FROZEN])
        self.move_all(FROZEN, OLDEST)
        self.deeds_done.append(("thaw",))
        return many

    def deeds(self):
        """A list of all deeds that were done, and not refused, in order."""
        return list(self.deeds_done)

    def thing_called(self, name):
        """The thing that has a name; NoThing of what is no name of one."""
        if not is_name(name) or name not in self.heap.names:
            raise NoThing("no name of a thing")
        return self.heap.things[self.heap.names[name]]

    def check_holding(self, thing, form):
        """Refuse what is no tuple of names of things, and of None, for the slots of the form."""
        if not isinstance(thing, tuple) or len(thing) > (0 if form == LEAF else GREATEST_SLOT_COUNT):
            raise NoThing("a row or a fixed thing holds a tuple of at most 8 names, a leaf none")
        for other in thing:
            if other is not None:
                self.thing_called(other)

    def check_slot(self, thing, at):
        """Refuse what is no slot of a thing."""
        if not thing.has_slot(at):
            raise NoSlot(len(thing.slots))

    def call_so(self, name, number):
        """Give a name to a thing, and let happen what comes of it."""
        give_name(self.heap, name, number)
        run(self.heap)

    def move_all(self, place, to):
        """Put all things of a list at the end of another."""
        for number in list(self.heap.lists[place]):
            self.heap.track(number, to)
