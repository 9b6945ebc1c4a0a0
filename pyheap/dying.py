"""Dying: what happens to a thing that is held no more, and the steps that are done then.

Each function is a task, or a part of one: what it plans is done when it has come to its end.
"""

from pyheap.heaps import OLDEST
from pyheap.steps import CLEAR, COLLECT, FAIL, FORGET, SAVE
from pyheap.things import LEAF, ROW


def let_go(heap, number):
    """Hold a thing once less; if that was the last time, it dies."""
    thing = heap.things[number]
    thing.count -= 1
    if thing.count == 0:
        heap.plan([("die", number)])


def give_name(heap, name, number):
    """Give a name to a thing, and let go what it named."""
    heap.hold(number)
    old = heap.names.get(name)
    heap.names[name] = number
    if old is not None:
        heap.plan([("let go", old)])


def forget_name(heap, name):
    """Let a name that names something name nothing, and let go what it named."""
    heap.plan([("let go", heap.names.pop(name))])


def fill_slot(heap, number, at, other):
    """Let a slot hold another thing, or by None nothing, and let go what it held."""
    thing = heap.things[number]
    if other is not None:
        heap.hold(other)
    old = thing.slots[at]
    thing.slots[at] = other
    if old is not None:
        heap.plan([("let go", old)])


def die(heap, number):
    """Begin a thing's death, or put the thing aside where too many are dying round it."""
    heap.untrack(number)
    thing = heap.things[number]
    if thing.may_nest():
        if heap.nested_count >= heap.nesting:
            heap.aside.append(number)
            return
        heap.nested_count += 1
    if thing.is_to_be_asked():
        # While it does its steps it is a thing like others, so that a collection sees it.
        if thing.form != LEAF:
            heap.track(number, 0)
        begin_asking(heap, number)
        heap.plan([("do steps", (number, 0)), ("judge", number)])
    else:
        heap.plan([("part", number)])


def begin_asking(heap, number):
    """Hold a thing that is asked to do its steps."""
    heap.hold(number)
    thing = heap.things[number]
    thing.is_asked = True
    heap.events.append(("last", number))


def judge(heap, number):
    """Let go a dying thing that did its steps: it lives on, or its death goes on."""
    thing = heap.things[number]
    thing.count -= 1
    if thing.count > 0:
        end_death(heap, thing)
    else:
        heap.untrack(number)
        heap.plan([("part", number)])


def part(heap, number):
    """Part a dying thing from its watchers, then from what it holds, then from its block."""
    thing = heap.things[number]
    watchers = list(thing.watchers)
    for watcher in watchers:
        heap.lose_target(watcher)
    called = [watcher for watcher in watchers if heap.things[watcher].count > 0]
    plan_calls(heap, called, [("empty", number), ("free", number)])


def plan_calls(heap, watchers, rest):
    """Hold those of these weak things that have steps, and plan that they do them, and then the rest."""
    called = [watcher for watcher in watchers if heap.things[watcher].steps != ()]
    for watcher in called:
        heap.hold(watcher)
    heap.plan([("call", watcher) for watcher in called] + rest)


def call(heap, number):
    """Let a weak thing that is held do its steps, and let it go."""
    heap.events.append(("call", number))
    heap.plan([("do steps", (number, 0)), ("let go", number)])


def empty(heap, number):
    """Make a thing's slots hold nothing, from the last one to the first."""
    slots = heap.things[number].slots
    filled = [at for at, other in enumerate(slots) if other is not None]
    if filled:
        heap.plan([("empty", number)])
        fill_slot(heap, number, filled[-1], None)


def free(heap, number):
    """End the death of a thing: its block comes back."""
    thing = heap.things[number]
    heap.drop_thing(number)
    end_death(heap, thing)


def end_death(heap, thing):
    """Let a thing die no more; behind the outermost one those die that were put aside."""
    if thing.may_nest():
        heap.nested_count -= 1
        if heap.nested_count == 0 and heap.aside:
            # They die within one thing, as it were, so that none of them is the outermost one.
            heap.nested_count = 1
            heap.plan([("die aside", None)])


def die_aside(heap, subject):
    """Let the thing die that was put aside last, and so on till there is none."""
    if heap.aside:
        heap.plan([("die", heap.aside.pop()), ("die aside", subject)])
    else:
        heap.nested_count -= 1


def do_steps(heap, subject):
    """Do the steps of a thing, from this one on: the subject is a tuple (number, at)."""
    number, at = subject
    steps = heap.things[number].steps
    if at == len(steps):
        return
    word = steps[at][0]
    if word == FAIL:
        heap.events.append(("failed", number))
        return
    heap.plan([("do steps", (number, at + 1))])
    if word == COLLECT:
        heap.plan([("collect", OLDEST)])
    else:
        do_step_with(heap, number, word, steps[at][1])


def do_step_with(heap, number, word, what):
    """Do a step that has a name or a slot."""
    if word == SAVE:
        give_name(heap, what, number)
    elif word == FORGET and what in heap.names:
        forget_name(heap, what)
    elif word == CLEAR:
        thing = heap.things[number]
        if thing.form == ROW and thing.has_slot(what):
            fill_slot(heap, number, what, None)


# Dying may begin a collection, and a collection lets things die. Two files may not import from each other, so
# tasks are planned by their words, and running alone knows both tables.
DYING_TASKS = {
    "let go": let_go,
    "die": die,
    "do steps": do_steps,
    "judge": judge,
    "part": part,
    "call": call,
    "empty": empty,
    "free": free,
    "die aside": die_aside,
}
