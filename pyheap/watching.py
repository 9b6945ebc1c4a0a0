"""Watching: what is to be seen of a world, by which nothing in it changes."""

from pyheap.errors import NoNumber, NoThing, NotWeak
from pyheap.graphs import ring_groups, turned, walked
from pyheap.heaps import FROZEN
from pyheap.sizes import is_whole, is_whole_within
from pyheap.things import WEAK
from pyheap.world import check_list_by_age


def thing_at(world, number):
    """The thing that has a number; NoThing of what is no number of a thing that is there."""
    # To a dict, truths are the same keys as 0 and 1.
    if not is_whole(number) or number not in world.heap.things:
        raise NoThing("no number of a thing that is there")
    return world.heap.things[number]


def called(world):
    """A rising list of tuples (name, number)."""
    return sorted(world.heap.names.items())


def alive(world):
    """A rising list of the numbers of all things."""
    return sorted(world.heap.things)


def form_of(world, number):
    """A thing's form."""
    return thing_at(world, number).form


def slots_of(world, number):
    """A list of what a thing's slots hold, numbers or None."""
    return list(thing_at(world, number).slots)


def count_of(world, number):
    """How often names and slots hold a thing."""
    return thing_at(world, number).count


def place_of(world, number):
    """The list in which a thing is tracked; None of one that is not."""
    return thing_at(world, number).place


def target_of(world, number):
    """The number of a weak thing's target; None without."""
    thing = thing_at(world, number)
    if thing.form != WEAK:
        raise NotWeak("only a weak thing has a target")
    return thing.target


def watchers_of(world, number):
    """A list of the weak things whose target a thing is, the one that came last first."""
    return list(thing_at(world, number).watchers)


def was_asked(world, number):
    """Whether a thing was asked to do its steps."""
    return thing_at(world, number).is_asked


def listed(world, place):
    """The things of a list, in order."""
    if not is_whole_within(place, 0, FROZEN):
        raise NoNumber("there are lists 0, 1, 2 and 3")
    return list(world.heap.lists[place])


def counters(world):
    """A tuple of the three counters."""
    return tuple(world.heap.counts)


def tours(world):
    """A list of tuples: how many collections up to each list were done, how many things they found."""
    return list(zip(world.heap.tours_done, world.heap.tours_found))


def past(world):
    """A list of all that happened by itself, in order."""
    return list(world.heap.events)


def rows_of(world):
    """A dict with what each thing holds."""
    things = world.heap.things
    return {number: things[number].held_numbers() for number in things}


def reached_from(world, numbers):
    """A dict with all things that names or these things lead to, these too."""
    named = [number for name, number in called(world)]
    return walked(rows_of(world), named + numbers)


def reachable(world):
    """A rising list of all things that names lead to."""
    return sorted(reached_from(world, []))


def garbage(world):
    """A rising list of all things that no names lead to."""
    found = reached_from(world, [])
    return [number for number in alive(world) if number not in found]


def holders(world, number):
    """A tuple of a rising list of a thing's names, and one of tuples (number, how many slots) of what holds it."""
    thing_at(world, number)
    names = [name for name, other in called(world) if other == number]
    many = [(other, slots_of(world, other).count(number)) for other in alive(world)]
    return (names, [pair for pair in many if pair[1] > 0])


def distances_to(rows, number):
    """A dict that has, for each thing that leads to this one, by how many slots it does at least."""
    back = turned(rows)
    distances = {number: 0}
    line = [number]
    at = 0
    while at < len(line):
        ahead = line[at]
        at += 1
        for other in back[ahead]:
            if other not in distances:
                distances[other] = distances[ahead] + 1
                line.append(other)
    return distances


def way_to(world, number):
    """The shortest list of a name and numbers that leads to a thing, of several the least; None without."""
    thing_at(world, number)
    rows = rows_of(world)
    distances = distances_to(rows, number)
    starts = [(distances[start], name, start) for name, start in called(world) if start in distances]
    if not starts:
        return None
    left, name, ahead = min(starts)
    way = [name, ahead]
    while left > 0:
        left -= 1
        ahead = min([other for other in rows[ahead] if distances.get(other) == left])
        way.append(ahead)
    return way


def rings_in(world):
    """A rising list of rising lists: the greatest groups of things of which each leads to each."""
    return ring_groups(rows_of(world))


def unreached(world, upto=2):
    """A rising list of the things of a list and of younger ones to which neither names nor things elsewhere lead."""
    check_list_by_age(upto)
    looked = {number: True for place in range(upto + 1) for number in listed(world, place)}
    found = reached_from(world, [number for number in alive(world) if number not in looked])
    return [number for number in sorted(looked) if number not in found]
