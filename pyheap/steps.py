"""Steps: what a thing does once before it dies, or a weak one when its target dies."""

from pyheap.errors import NoSteps
from pyheap.names import is_name
from pyheap.sizes import is_whole_within
from pyheap.things import WEAK

SAVE = "save"
FORGET = "forget"
CLEAR = "clear"
FAIL = "fail"
COLLECT = "collect"
GREATEST_STEP_COUNT = 3
GREATEST_SLOT = 7


def is_step(thing, form):
    """Whether a thing is a step for things of the form."""
    if not isinstance(thing, tuple):
        return False
    if len(thing) == 1:
        return thing[0] in (FAIL, COLLECT)
    if len(thing) != 2:
        return False
    word, part = thing
    if word == FORGET:
        return is_name(part)
    if form == WEAK:
        return False
    if word == SAVE:
        return is_name(part)
    return word == CLEAR and is_whole_within(part, 0, GREATEST_SLOT)


def check_steps(thing, form):
    """Refuse what are no steps for things of the form."""
    if not isinstance(thing, tuple) or len(thing) > GREATEST_STEP_COUNT:
        raise NoSteps("steps are a tuple of at most 3")
    if not all([is_step(part, form) for part in thing]):
        raise NoSteps("no step for such a thing")
