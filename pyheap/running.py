"""Running: the tasks of dying and of collecting, done one behind the other."""

from pyheap.collecting import ask_lost, break_up, end_collection, settle, sift_again, start_collection
from pyheap.dying import call, die, die_aside, do_steps, empty, free, judge, let_go, part

# Dying may begin a collection, and a collection lets things die, so each names the tasks of the other
# by words alone, and only here both are known.
ACTIONS = {
    "let go": let_go,
    "die": die,
    "do steps": do_steps,
    "judge": judge,
    "part": part,
    "call": call,
    "empty": empty,
    "free": free,
    "die aside": die_aside,
    "collect": start_collection,
    "ask lost": ask_lost,
    "sift again": sift_again,
    "break up": break_up,
    "settle": settle,
    "end collection": end_collection,
}


def run(heap):
    """Do all tasks that are on the agenda, and all that they plan."""
    while heap.agenda:
        word, subject = heap.agenda.pop()
        action = ACTIONS[word]
        action(heap, subject)
