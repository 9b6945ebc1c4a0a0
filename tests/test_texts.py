"""Texts: worlds written and read (10.1), and read back as what they write, and as nothing else (0.2 (k))."""

import unittest

from helping import NO_LISTS, NO_WHOLE_NUMBERS, Numbers, Refusing, drawn_world, seen_world
from pyheap.errors import NoText
from pyheap.histories import replayed
from pyheap.texts import read_world, world_text
from pyheap.world import World

# Each deed with its line, worked out by hand.
LINES = (
    (("make", "a", "leaf", (), (), 7), "make a leaf . . 7"),
    (("make", "on", "leaf", (), (("fail",),), 0), "make on leaf . fail 0"),
    (
        ("make", "b", "row", ("a", None), (("save", "b"), ("clear", 0), ("forget", "zz")), 0),
        "make b row a,- save:b;clear:0;forget:zz 0",
    ),
    (("make", "f", "fixed", (None,), (("collect",), ("fail",)), 0), "make f fixed - collect;fail 0"),
    (("make", "h", "fixed", ("b", "a", "b"), (), 0), "make h fixed b,a,b . 0"),
    (("make", "r", "row", (None, None, "on"), (("clear", 7),), 0), "make r row -,-,on clear:7 0"),
    (("let", "c", "a"), "let c a"),
    (("put", "b", 1, "b"), "put b 1 b"),
    (("put", "b", 0, None), "put b 0 -"),
    (("take", "d", "b", 1), "take d b 1"),
    (("weaken", "w", "a", ()), "weaken w a ."),
    (("weaken", "v", "a", (("forget", "c"), ("fail",), ("collect",))), "weaken v a forget:c;fail;collect"),
    (("ask", "e", "w"), "ask e w"),
    (("forget", "e"), "forget e"),
    (("collect", 0), "collect 0"),
    (("collect", 1), "collect 1"),
    (("collect", 2), "collect 2"),
    (("bounds", 0, 10, 999), "bounds 0 10 999"),
    (("switch", False), "switch off"),
    (("switch", True), "switch on"),
    (("freeze",), "freeze"),
    (("thaw",), "thaw"),
    (("make", "off", "leaf", (), (), 2000), "make off leaf . . 2000"),
    (("let", "off", "on"), "let off on"),
    (("let", "world", "off"), "let world off"),
)
DEEDS = [deed for deed, line in LINES]
TEXT = "".join(line + "\n" for line in ("world 1072 3 4", *(line for deed, line in LINES)))
SMALL = "world 4096 16 50\nmake a row - clear:0;save:a 0\nput a 0 a\nswitch off\nbounds 1 20 3\n"


class Written(unittest.TestCase):
    def test_each_line(self):
        world = replayed(DEEDS, pool_bytes=1072, pool_count=3, nesting=4)
        self.assertEqual(world_text(world), TEXT)

    def test_a_new_world(self):
        self.assertEqual(world_text(World()), "world 4096 16 50\n")
        self.assertEqual(world_text(World(pool_bytes=1088, pool_count=64, nesting=2)), "world 1088 64 2\n")

    def test_nothing_changes(self):
        world = replayed(DEEDS)
        before = seen_world(world)
        self.assertEqual(world_text(world), world_text(world))
        self.assertEqual(seen_world(world), before)

    def test_what_was_refused_is_not_written(self):
        world = World()
        for name in ("a", "A"):
            with self.assertRaises(ValueError):
                world.forget(name)
        self.assertEqual(world_text(world), "world 4096 16 50\n")


class Read(Refusing):
    def test_each_line(self):
        world = read_world(TEXT)
        other = replayed(DEEDS, pool_bytes=1072, pool_count=3, nesting=4)
        self.assertEqual(world, other)
        self.assertEqual(world.deeds(), DEEDS)
        self.assertEqual(seen_world(world), seen_world(other))

    def test_a_new_world(self):
        self.assertEqual(read_world("world 4096 16 50\n"), World())

    def test_drawn_worlds(self):
        for at in range(60):
            world = drawn_world(61000 + at, 80)
            text = world_text(world)
            other = read_world(text)
            self.assertEqual((other, world_text(other)), (world, text))
            self.assertEqual(seen_world(other), seen_world(world))

    def test_what_is_no_text(self):
        others = ([TEXT], (TEXT,), ["world", 4096, 16, 50], ("world", 4096, 16, 50), b"world 4096 16 50\n")
        for at, thing in enumerate((*NO_LISTS, *NO_WHOLE_NUMBERS, *others)):
            with self.subTest(at=at):
                self.assert_refused(NoText, read_world, thing)

    def test_texts_of_no_world(self):
        new = "world 4096 16 50\n"
        for text in (
            "", "\n", " ", "world", "world\n", "world 4096 16 50", "world 4096 16\n", "world 4096 16 50 50\n",
            new + "\n",
            "\n" + new, new + new, " " + new, "world  4096 16 50\n", "world 4096 16 50 \n", "world\t4096 16 50\n",
            "World 4096 16 50\n", "worlds 4096 16 50\n", "4096 16 50\n", "world 04096 16 50\n", "world 4096 016 50\n",
            "world +4096 16 50\n", "world 4096 16 050\n", "world 4096 -16 50\n", "world 4096 16 5_0\n",
            "world 4096 16 on\n",
            "world 4097 16 50\n", "world 4096 0 50\n", "world 4096 65 50\n", "world 4096 16 51\n", "world 4096 16 1\n",
            "world 1056 16 50\n", "world 4096 16 50\r\n", "world 4096 16 50\x0b", "world 4096 16 50\u2028",
            "world 4096 16 \u0665\u0660\n", "world 4096 16 5\u00b2\n", "world 4096 16 " + "5" * 5000 + "\n",
            "world 4096 16 - \n", "world - - -\n", "world 4096 16 50\x00\n", new + "\x00\n", new + "world 4096 16 50\n",
            "world 4096 16 50\n\n", "world . . .\n", "world 4096.0 16 50\n", "world 4096,16,50\n",
        ):
            with self.subTest(text=text[:40]):
                self.assert_refused(NoText, read_world, text)

    def test_lines_that_are_no_deeds(self):
        start = "world 4096 16 50\nmake a leaf . . 0\nmake r row a,- . 0\nweaken w r .\n"
        read_world(start)
        for line in (
            "", " ", "-", ".", "undo", "Freeze", "freeze ", " freeze", "freeze -", "freeze .", "thaw 0", "freeze thaw",
            "make", "make b leaf . .", "make b leaf . . 0 0", "make b leaf . . -", "make b leaf . . 00",
            "make b leaf . . 01",
            "make b leaf . . -0", "make b leaf . . +1", "make b leaf . . 2001", "make b leaf . . on",
            "make b leaf . . .",
            "make b leaf - . 0", "make b leaf a . 0", "make b leaf  . 0", "make b leaf . - 0", "make b leaf ., . 0",
            "make b weak . . 0", "make b row x . 0", "make b row a, . 0", "make b row ,a . 0", "make b row a,,a . 0",
            "make b row a;a . 0", "make b row a:a . 0", "make b row a,. . 0", "make b row .,a . 0",
            "make b row None . 0",
            "make b row a,a,a,a,a,a,a,a,a . 0", "make b row . . 1", "make B row . . 0", "make b1 row . . 0",
            "make - row . . 0",
            "make b row . fail; 0", "make b row . ;fail 0", "make b row . fail,fail 0", "make b row . fail: 0",
            "make b row . fail;fail;fail;fail 0", "make b row . clear:8 0", "make b row . clear:01 0",
            "make b row . clear:-1 0",
            "make b row . clear: 0", "make b row . clear 0", "make b row . clear:0:0 0", "make b row . clear:on 0",
            "make b row . clear:" + "0" * 5000 + " 0", "make b row . save 0", "make b row . save: 0",
            "make b row . save:A 0",
            "make b row . save:- 0", "make b row . forget:a:b 0", "make b row . collect:2 0", "make b row . .;fail 0",
            "make b row . Fail 0", "make b row . 'fail' 0", "let b", "let b x", "let b a a", "let b -", "let - a",
            "let b  a",
            "let B a", "forget", "forget x", "forget -", "forget a a", "put r 0", "put r 2 a", "put r 00 a",
            "put r -1 a",
            "put r 0 x", "put r 0 None", "put r 0 .", "put r on a", "put a 0 a", "put r 0 a a", "take b r 1",
            "take b r 2",
            "take b r", "take b r 00", "take b r -", "weaken b a", "weaken b a -", "weaken b w .", "weaken b a save:b",
            "weaken b a clear:0", "weaken b a fail;", "ask b a", "ask b x", "ask b w .", "collect", "collect 3",
            "collect 02",
            "collect -1", "collect on", "collect 1 2", "bounds 1 2", "bounds 1 2 1000", "bounds 1 2 03",
            "bounds 1 2 3 4",
            "bounds 1 2 -", "switch", "switch 1", "switch True", "switch On", "switch on off", "switch -",
            "set_bounds 1 2 3",
            "deeds", "world 4096 16 50", "thaw\r", "thaw\t", "thaw\u00a0",
        ):
            for text in (start + line + "\n", start + line + "\nfreeze\n"):
                with self.subTest(line=line[:40]):
                    self.assert_refused(NoText, read_world, text)

    def test_a_sign_left_out_put_in_or_changed(self):
        read_world(SMALL)
        found = {}
        for at in range(len(SMALL) + 1):
            changed = [SMALL[:at] + SMALL[at + 1:]]
            for sign in " \n0a-.,;:1":
                changed += [SMALL[:at] + sign + SMALL[at:], SMALL[:at] + sign + SMALL[at + 1:]]
            for text in changed:
                try:
                    found[text] = read_world(text)
                except NoText:
                    continue
        # What is read is written just so; a few such texts are those of other worlds.
        self.assertIn(SMALL, found)
        self.assertIn(SMALL.replace("bounds 1", "bounds 11"), found)
        self.assertNotIn(SMALL[:-1], found)
        for text, world in found.items():
            self.assertEqual(world_text(world), text)
        self.assertLess(len(found), 120)

    def test_lines_left_out_or_turned(self):
        lines = SMALL.splitlines(keepends=True)
        self.assert_refused(NoText, read_world, "".join(lines[1:]))
        self.assert_refused(NoText, read_world, "".join([lines[0], *lines[2:]]))
        self.assert_refused(NoText, read_world, "".join([lines[0], lines[2], lines[1], *lines[3:]]))
        self.assert_refused(NoText, read_world, "".join(lines[::-1]))
        self.assert_refused(NoText, read_world, "".join([lines[1], lines[0], *lines[2:]]))
        read_world("".join([*lines[:2], lines[4], lines[3], lines[2]]))

    def test_drawn_changes_of_drawn_texts(self):
        numbers = Numbers(7)
        read = 0
        for at in range(40):
            text = world_text(drawn_world(63000 + at, 40))
            for _ in range(40):
                place = numbers.below(len(text))
                sign = numbers.one_of(" \n0123,;:.-abcxyz")
                changed = text[:place] + numbers.one_of(("", sign, sign + text[place])) + text[place + 1:]
                try:
                    world = read_world(changed)
                except NoText:
                    continue
                read += 1
                self.assertEqual(world_text(world), changed)
        self.assertGreater(read, 20)


if __name__ == "__main__":
    unittest.main()
