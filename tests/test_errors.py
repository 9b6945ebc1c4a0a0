"""The refusals (0.3 and the interface's line on errors.py)."""

import unittest

from pyheap import errors

NAMES = (
    "NoSize", "NoNumber", "NoName", "NoBlock", "NoThing", "NoForm", "NoSteps", "NoSlot",
    "NoRow", "Bare", "NotWeak", "NoTarget", "Gone", "NoGraph", "NoDeeds", "NoText",
)
FIELDS = {"NoBlock": "places", "NoSlot": "many", "NoRow": "form"}


def made(name, told="told"):
    return getattr(errors, name)(told)


class Classes(unittest.TestCase):
    def test_heap_error_is_a_value_error(self):
        self.assertEqual(errors.HeapError.__bases__, (ValueError,))

    def test_there_are_sixteen_unlike_refusals(self):
        self.assertEqual(len({getattr(errors, name) for name in NAMES}), 16)

    def test_each_stands_directly_under_heap_error(self):
        for name in NAMES:
            with self.subTest(name):
                self.assertEqual(getattr(errors, name).__bases__, (errors.HeapError,))

    def test_each_has_its_own_name(self):
        for name in NAMES:
            with self.subTest(name):
                self.assertEqual(getattr(errors, name).__name__, name)

    def test_none_stands_under_another(self):
        for one in NAMES:
            for other in NAMES:
                with self.subTest(one=one, other=other):
                    below = issubclass(getattr(errors, one), getattr(errors, other))
                    self.assertEqual(below, one == other)

    def test_no_other_refusal_is_there(self):
        classes = {name for name, thing in vars(errors).items() if isinstance(thing, type)}
        self.assertEqual(classes, set(NAMES) | {"HeapError"})

    def test_each_is_caught_as_a_heap_error_and_a_value_error(self):
        for name in NAMES:
            for caught in (errors.HeapError, ValueError):
                with self.subTest(name=name, caught=caught), self.assertRaises(caught):
                    raise made(name)


class Fields(unittest.TestCase):
    def test_fields_are_what_they_are_made_with(self):
        for name, field in FIELDS.items():
            for told in (0, 8, "leaf", None, True, (0, 0, 0), ("great", 3), [1, [2]]):
                with self.subTest(name=name, told=told):
                    error = made(name, told)
                    self.assertEqual(getattr(error, field), told)
                    self.assertEqual(type(getattr(error, field)), type(told))

    def test_fields_are_of_the_object_not_of_the_class(self):
        for name, field in FIELDS.items():
            with self.subTest(name):
                self.assertFalse(hasattr(getattr(errors, name), field))
                one, other = made(name, 1), made(name, 2)
                self.assertEqual((getattr(one, field), getattr(other, field)), (1, 2))

    def test_fields_are_still_there_when_it_is_caught(self):
        for name, field in FIELDS.items():
            with self.subTest(name):
                with self.assertRaises(errors.HeapError) as caught:
                    raise made(name, (1, 2, 3))
                self.assertEqual(getattr(caught.exception, field), (1, 2, 3))


if __name__ == "__main__":
    unittest.main()
