"""Things: number, form, slots, count and bytes (4.1 and 4.2, as far as they tell what a thing is)."""

import unittest

from helping import FAR_OFF, NO_WHOLE_NUMBERS
from pyheap.things import Thing


class NewThing(unittest.TestCase):
    def test_it_is_what_it_is_made_of(self):
        thing = Thing(7, "row", slots=(3, None, 7))
        self.assertEqual((thing.number, thing.form, thing.slots, thing.extra), (7, "row", [3, None, 7], 0))

    def test_nobody_holds_it_yet(self):
        for form in ("leaf", "row", "fixed", "weak"):
            self.assertEqual(Thing(0, form).count, 0)

    def test_without_slots_it_holds_nothing(self):
        for form in ("leaf", "row", "fixed", "weak"):
            thing = Thing(0, form)
            self.assertEqual((thing.slots, thing.held_numbers()), ([], []))

    def test_the_list_of_slots_is_its_own(self):
        slots = [1, None]
        one, other = Thing(0, "row", slots=slots), Thing(1, "row", slots=slots)
        one.slots[0] = None
        self.assertEqual((slots, other.slots), ([1, None], [1, None]))
        Thing(2, "row").slots.append(5)
        self.assertEqual(Thing(3, "row").slots, [])


class ByteCount(unittest.TestCase):
    def test_a_leaf_has_16_and_extra(self):
        for extra in (0, 1, 496, 497, 1999, 2000):
            self.assertEqual(Thing(0, "leaf", extra=extra).byte_count(), 16 + extra)

    def test_a_row_has_56_and_8_for_each_slot(self):
        many = [Thing(0, "row", slots=(None,) * slots).byte_count() for slots in range(9)]
        self.assertEqual(many, [56, 64, 72, 80, 88, 96, 104, 112, 120])

    def test_a_fixed_thing_has_40_and_8_for_each_slot(self):
        many = [Thing(0, "fixed", slots=(4,) * slots).byte_count() for slots in range(9)]
        self.assertEqual(many, [40, 48, 56, 64, 72, 80, 88, 96, 104])

    def test_a_weak_thing_has_72(self):
        self.assertEqual(Thing(0, "weak").byte_count(), 72)

    def test_what_a_slot_holds_does_not_matter(self):
        thing = Thing(0, "row", slots=(1, 2))
        thing.slots[1] = None
        self.assertEqual(thing.byte_count(), 72)


class Slots(unittest.TestCase):
    def test_slots_are_numbered_from_0_on(self):
        for many in range(9):
            thing = Thing(0, "row", slots=(None,) * many)
            self.assertEqual([at for at in range(-9, 12) if thing.has_slot(at)], list(range(many)))

    def test_nothing_else_is_a_slot(self):
        thing = Thing(0, "row", slots=(1, 2, 3))
        for at, other in enumerate((*FAR_OFF, *NO_WHOLE_NUMBERS)):
            with self.subTest(at=at):
                self.assertIs(thing.has_slot(other), False)

    def test_held_numbers_are_told_slot_by_slot(self):
        thing = Thing(2, "fixed", slots=(5, None, 0, 5, None, 2))
        self.assertEqual(thing.held_numbers(), [5, 0, 5, 2])
        thing.held_numbers().clear()
        self.assertEqual(thing.held_numbers(), [5, 0, 5, 2])


if __name__ == "__main__":
    unittest.main()
