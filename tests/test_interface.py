"""The interface: each name, its arguments and its default values, as DOC.md lists them."""

import importlib
import inspect
import unittest

FUNCTIONS = {
    "sizes": ("kind_of(size)", "room_of(kind)", "blocks_in(pool_size, kind)"),
    "graphs": (
        "is_graph(thing)", "reached(rows, starts)", "rings(rows)", "outer_counts(rows, counts, order)",
        "sifted(rows, counts, order)",
    ),
    "watching": (
        "called(world)", "alive(world)", "form_of(world, number)", "slots_of(world, number)", "count_of(world, number)",
        "place_of(world, number)", "target_of(world, number)", "watchers_of(world, number)", "was_asked(world, number)",
        "listed(world, place)", "counters(world)", "tours(world)", "past(world)", "reachable(world)", "garbage(world)",
        "holders(world, number)", "way_to(world, number)", "rings_in(world)", "unreached(world, upto=2)",
    ),
    "memory": (
        "bytes_of(world)", "layout(world)", "owner(world, place)", "pool_mates(world, number)", "arenas_of(world)",
        "kinds_of(world)",
    ),
    "histories": (
        "replayed(deeds, *, pool_bytes=4096, pool_count=16, nesting=50)", "twin(world)", "undone(world)",
        "unlike(one, other)", "parting(one, other)",
    ),
    "texts": ("world_text(world)", "read_world(text)"),
}
CLASSES = {
    ("blocks", "Blocks"): (
        "__init__(self, *, pool_bytes=4096, pool_count=16)", "take(self, size)", "give(self, place)", "live(self)",
        "size_at(self, place)", "useful_arenas(self)", "all_arenas(self)", "used_pools(self, kind)",
        "pool_at(self, arena, pool)", "bytes_out(self)", "__len__(self)",
    ),
    ("world", "World"): (
        "__init__(self, *, pool_bytes=4096, pool_count=16, nesting=50)",
        "make(self, name, form, *, holding=(), stepping=(), extra=0)", "let(self, name, other)", "forget(self, name)",
        "put(self, name, at, other)", "take(self, name, other, at)", "weaken(self, name, other, *, stepping=())",
        "ask(self, name, other)", "collect(self, upto=2)", "set_bounds(self, first, second, third)",
        "switch(self, is_on)", "freeze(self)", "thaw(self)", "deeds(self)", "__eq__(self, other)", "__len__(self)",
        "__repr__(self)",
    ),
}
ERRORS = (
    "NoSize", "NoNumber", "NoName", "NoBlock", "NoThing", "NoForm", "NoSteps", "NoSlot", "NoRow", "Bare", "NotWeak",
    "NoTarget", "Gone", "NoGraph", "NoDeeds", "NoText",
)


class Interface(unittest.TestCase):
    def assert_written_so(self, function, written):
        self.assertEqual(function.__name__ + str(inspect.signature(function)), written)

    def test_functions(self):
        for name, lines in FUNCTIONS.items():
            module = importlib.import_module(f"pyheap.{name}")
            for written in lines:
                with self.subTest(module=name, written=written):
                    self.assert_written_so(getattr(module, written.split("(")[0]), written)

    def test_methods_stand_in_their_class_itself(self):
        for (name, title), lines in CLASSES.items():
            owner = getattr(importlib.import_module(f"pyheap.{name}"), title)
            for written in lines:
                with self.subTest(owner=title, written=written):
                    self.assert_written_so(vars(owner)[written.split("(")[0]], written)

    def test_errors(self):
        errors = importlib.import_module("pyheap.errors")
        self.assertEqual(errors.HeapError.__bases__, (ValueError,))
        for name in ERRORS:
            self.assertEqual(getattr(errors, name).__bases__, (errors.HeapError,))


if __name__ == "__main__":
    unittest.main()
