"""Things: their forms, what they hold, how often they are held, and how great their blocks are."""

from pyheap.sizes import is_whole_within

LEAF = "leaf"
ROW = "row"
FIXED = "fixed"
WEAK = "weak"
BYTES_OF_FORM = {"leaf": 16, "row": 56, "fixed": 40, "weak": 72}
BYTES_OF_SLOT = 8


class Thing:
    """A thing that nobody holds yet; its slots hold numbers of things, or None.

    It trusts its maker: only rows and fixed things have slots, only a leaf has extra bytes, and only a
    weak thing has a target. Its target and its watchers, the weak thing that came last first, are told
    by their numbers; place is the list in which it is tracked, block where its block lies.
    """

    def __init__(self, number, form, *, slots=(), steps=(), extra=0, target=None):
        self.number = number
        self.form = form
        self.slots = list(slots)
        self.steps = steps
        self.extra = extra
        self.target = target
        self.count = 0
        self.watchers = []
        self.is_asked = False
        self.place = None
        self.block = None

    def byte_count(self):
        """For how many bytes its block is asked."""
        return BYTES_OF_FORM[self.form] + BYTES_OF_SLOT * len(self.slots) + self.extra

    def has_slot(self, at):
        """Whether any thing is the number of one of its slots."""
        return is_whole_within(at, 0, len(self.slots) - 1)

    def held_numbers(self):
        """The numbers of what its slots hold, slot by slot, without those that hold nothing."""
        return [number for number in self.slots if number is not None]

    def may_nest(self):
        """Whether it is a row or a fixed thing, which may hold others that die within its death."""
        return self.form in (ROW, FIXED)

    def is_to_be_asked(self):
        """Whether it has steps to do before it dies."""
        return self.form != WEAK and self.steps != () and not self.is_asked
