"""Collecting: what is lost in rings is found, asked, and broken up.

Each function that takes a heap and a subject is a task: what it plans is done when it has come to its end.
"""

from pyheap.dying import begin_asking, plan_calls
from pyheap.graphs import sift
from pyheap.heaps import LIST_COUNT, LOST, OLDEST
from pyheap.things import FIXED, ROW, WEAK

MIDDLE = 1


def older_list(upto):
    """The list to which that goes which a collection up to a list keeps."""
    return min(upto + 1, OLDEST)


def sift_things(heap, order):
    """A tuple (kept, lost) of the things of the order."""
    rows = {number: heap.things[number].held_numbers() for number in order}
    counts = {number: heap.things[number].count for number in order}
    return sift(rows, counts, order)


def start_collection(heap, upto):
    """Begin a collection up to a list, unless one goes on."""
    if heap.upto is not None:
        return
    heap.upto = upto
    count_collection(heap, upto)
    kept, lost = sift_things(heap, looked_at(heap, upto))
    for number in lost:
        heap.track(number, LOST)
    for number in kept:
        heap.track(number, older_list(upto))
    for number in kept:
        if is_to_be_untracked(heap, number):
            heap.untrack(number)
    count_kept(heap, upto, kept)
    plan_calls(heap, part_from_lost(heap, lost), [("ask lost", number) for number in lost] + [("sift again", upto)])


def count_collection(heap, upto):
    """Bring the counters to where they are behind a collection."""
    for place in range(upto + 1):
        heap.counts[place] = 0
    if upto < OLDEST:
        heap.counts[upto + 1] += 1


def looked_at(heap, upto):
    """The things that a collection looks at, in order."""
    numbers = list(heap.lists[upto])
    for place in range(upto):
        numbers.extend(list(heap.lists[place]))
    return numbers


def is_to_be_untracked(heap, number):
    """Whether a thing is a fixed one that holds nothing by which it could be in a ring."""
    thing = heap.things[number]
    return thing.form == FIXED and not any([may_lead_on(heap.things[other]) for other in thing.held_numbers()])


def may_lead_on(thing):
    """Whether a thing is tracked, or of a form that is always tracked while it is held."""
    return thing.form in (ROW, WEAK) or thing.place is not None


def count_kept(heap, upto, kept):
    """Remember how many things were kept and left tracked, by which list 2 is due or not."""
    many = len([number for number in kept if heap.things[number].place is not None])
    if upto == MIDDLE:
        heap.kept_middle += many
    elif upto == OLDEST:
        heap.kept_middle = 0
        heap.kept_oldest = many


def part_from_lost(heap, lost):
    """Part weak things from their targets, where one of both is lost; told are those that are not lost."""
    parted = []
    for number in lost:
        heap.lose_target(number)
        for watcher in list(heap.things[number].watchers):
            heap.lose_target(watcher)
            if not heap.is_lost(watcher):
                parted.append(watcher)
    return parted


def ask_lost(heap, number):
    """Let a lost thing that is still there do its steps, if it never did."""
    if heap.is_lost(number) and heap.things[number].is_to_be_asked():
        begin_asking(heap, number)
        heap.plan([("do steps", (number, 0)), ("let go", number)])


def sift_again(heap, upto):
    """Keep what has risen, and begin to break up what is still lost."""
    kept, lost = sift_things(heap, list(heap.lists[LOST]))
    for number in kept:
        heap.track(number, older_list(upto))
    heap.found = len(lost)
    heap.tours_done[upto] += 1
    heap.tours_found[upto] += heap.found
    heap.plan([("break up", number) for number in lost] + [("end collection", None)])


def break_up(heap, number):
    """Make a lost row that is still there hold nothing, by which it and others may die."""
    if heap.is_lost(number):
        heap.hold(number)
        heap.plan([("let go", number), ("settle", number)])
        if heap.things[number].form == ROW:
            heap.plan([("empty", number)])


def settle(heap, number):
    """Track a lost thing that lives on though it was let go."""
    if heap.is_lost(number):
        heap.track(number, older_list(heap.upto))


def end_collection(heap, subject):
    """Let no collection go on."""
    heap.upto = None


def list_that_is_due(heap):
    """The list up to which a collection comes by itself now; None where none comes."""
    if not heap.is_on or heap.bounds[0] == 0 or heap.counts[0] <= heap.bounds[0]:
        return None
    over = [place for place in range(LIST_COUNT) if heap.counts[place] > heap.bounds[place]]
    if over[-1] == OLDEST and heap.kept_middle < heap.kept_oldest // 4:
        return over[-2]
    return over[-1]


COLLECTING_TASKS = {
    "collect": start_collection,
    "ask lost": ask_lost,
    "sift again": sift_again,
    "break up": break_up,
    "settle": settle,
    "end collection": end_collection,
}
