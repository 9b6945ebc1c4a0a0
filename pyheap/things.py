"""Things: their forms, what they hold, how often they are held, and how great their blocks are."""

from pyheap.sizes import is_whole_within

BYTES_OF_FORM = {"leaf": 16, "row": 56, "fixed": 40, "weak": 72}
BYTES_OF_SLOT = 8


class Thing:
    """A thing that nobody holds yet; its slots hold numbers of things, or None.

    It trusts its maker: only rows and fixed things have slots, and only a leaf has extra bytes.
    """

    def __init__(self, number, form, *, slots=(), extra=0):
        self.number = number
        self.form = form
        self.slots = list(slots)
        self.extra = extra
        self.count = 0

    def byte_count(self):
        """For how many bytes its block is asked."""
        return BYTES_OF_FORM[self.form] + BYTES_OF_SLOT * len(self.slots) + self.extra

    def has_slot(self, at):
        """Whether any thing is the number of one of its slots."""
        return is_whole_within(at, 0, len(self.slots) - 1)

    def held_numbers(self):
        """The numbers of what its slots hold, slot by slot, without those that hold nothing."""
        return [number for number in self.slots if number is not None]
