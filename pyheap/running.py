"""Running: the tasks of dying and of collecting, done one behind the other."""

from pyheap.collecting import COLLECTING_TASKS
from pyheap.dying import DYING_TASKS


def run(heap):
    """Do all tasks that are on the agenda, and all that they plan."""
    while heap.agenda:
        word, subject = heap.agenda.pop()
        if word in DYING_TASKS:
            action = DYING_TASKS[word]
        else:
            action = COLLECTING_TASKS[word]
        action(heap, subject)
