"""The refusals: one class for each, all of them below HeapError."""


class HeapError(ValueError):
    """Any refusal."""


class NoSize(HeapError):
    """What was handed in is no size."""


class NoNumber(HeapError):
    """What was handed in is no number that may stand there."""


class NoName(HeapError):
    """What was handed in is no name."""


class NoBlock(HeapError):
    """What was handed in, told in places, is no block that is out."""

    def __init__(self, places):
        HeapError.__init__(self, "no block that is out")
        self.places = places


class NoThing(HeapError):
    """What was handed in leads to no thing that is there."""


class NoForm(HeapError):
    """What was handed in is no form that can be made."""


class NoSteps(HeapError):
    """What was handed in is no tuple of steps."""


class NoSlot(HeapError):
    """What was handed in is no slot of a thing that has so many."""

    def __init__(self, many):
        HeapError.__init__(self, "no slot of this thing")
        self.many = many


class NoRow(HeapError):
    """The thing is of this form, and so no row."""

    def __init__(self, form):
        HeapError.__init__(self, "no row")
        self.form = form


class Bare(HeapError):
    """The slot holds nothing."""


class NotWeak(HeapError):
    """The thing is no weak one."""


class NoTarget(HeapError):
    """The thing can be no target: it is a weak one."""


class Gone(HeapError):
    """The weak thing has no target any more."""


class NoGraph(HeapError):
    """What was handed in is no graph, or does not fit to one."""


class NoDeeds(HeapError):
    """What was handed in is no list of deeds that can be done."""


class NoText(HeapError):
    """What was handed in is no text of a world."""
