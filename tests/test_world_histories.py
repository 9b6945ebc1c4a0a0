"""Worlds over many drawn histories: beside a model, and by what 0.2 (c) to (h) and (j) say."""

import unittest

from helping import Drawing, Numbers, block_of, do, drawn_world, made_with, outcome, seen_world
from pyheap.blocks import Blocks
from pyheap.watching import (
    alive, called, count_of, form_of, listed, past, place_of, slots_of, target_of, tours, was_asked, watchers_of,
)
from pyheap.world import World


class Refused(Exception):
    """A refusal of the model: its name and its fields."""

    def __init__(self, name, **fields):
        super().__init__(name)
        self.told = (name, fields)


class ModelThing:
    def __init__(self, number, form, slots, steps, target):
        self.number = number
        self.form = form
        self.slots = slots
        self.steps = steps
        self.target = target
        self.asked = False
        self.block = None


class Model:
    """A world by the words of 4.1 to 6.6: deaths by calls within calls, counts and watchers found anew each time."""

    def __init__(self, pool_bytes, pool_count, nesting):
        self.blocks = Blocks(pool_bytes=pool_bytes, pool_count=pool_count)
        self.nesting = nesting
        self.things = {}
        self.made = 0
        self.names = {}
        self.hands = []
        self.lists = [[], [], [], []]
        self.lost = None
        self.dying = 0
        self.aside = []
        self.counters = [0, 0, 0]
        self.bounds = [700, 10, 10]
        self.is_on = True
        self.tours = [(0, 0), (0, 0), (0, 0)]
        self.kept_by_1 = 0
        self.kept_by_2 = 0
        self.past = []
        self.deeds = []

    def count(self, thing):
        slots = [held for other in self.things.values() for held in other.slots]
        return [*self.names.values(), *slots, *self.hands].count(thing)

    def watchers(self, thing):
        numbers = [other.number for other in self.things.values() if other.target is thing]
        return [self.things[number] for number in sorted(numbers, reverse=True)]

    def place(self, thing):
        for at, things in enumerate(self.lists):
            if thing in things:
                return at
        return None

    def untrack(self, thing):
        for things in (*self.lists, self.lost or []):
            if thing in things:
                things.remove(thing)

    def let_go(self, thing):
        if thing is not None and self.count(thing) == 0:
            self.die(thing)

    def open_hand(self, thing):
        self.hands.remove(thing)
        self.let_go(thing)

    def name(self, name, thing):
        old = self.names.pop(name, None)
        if thing is not None:
            self.names[name] = thing
        self.let_go(old)

    def slot(self, thing, at, new):
        old = thing.slots[at]
        thing.slots[at] = new
        self.let_go(old)

    def die(self, thing):
        self.untrack(thing)
        nests = thing.form in ("row", "fixed")
        if nests and self.dying == self.nesting:
            self.aside.append(thing)
            return
        self.dying += nests
        if not self.rises(thing):
            self.end(thing)
        self.dying -= nests
        if nests and self.dying == 0 and self.aside:
            self.dying = 1
            while self.aside:
                self.die(self.aside.pop())
            self.dying = 0

    def rises(self, thing):
        if thing.asked or thing.form == "weak" or not thing.steps:
            return False
        if thing.form != "leaf":
            self.lists[0].append(thing)
        self.hands.append(thing)
        self.ask_for_steps(thing)
        self.hands.remove(thing)
        if self.count(thing):
            return True
        self.untrack(thing)
        return False

    def ask_for_steps(self, thing):
        thing.asked = True
        self.past.append(("last", thing.number))
        self.do_steps(thing)

    def do_steps(self, thing):
        for word, *parts in thing.steps:
            if word == "fail":
                self.past.append(("failed", thing.number))
                return
            if word == "save":
                self.name(parts[0], thing)
            if word == "forget":
                self.name(parts[0], None)
            if word == "clear" and thing.form == "row" and parts[0] < len(thing.slots):
                self.slot(thing, parts[0], None)
            if word == "collect":
                self.collect(2)

    def call(self, watchers):
        self.hands += watchers
        for watcher in watchers:
            self.past.append(("call", watcher.number))
            self.do_steps(watcher)
            self.open_hand(watcher)

    def part(self, thing):
        watchers = self.watchers(thing)
        for watcher in watchers:
            watcher.target = None
        return watchers

    def end(self, thing):
        self.call([watcher for watcher in self.part(thing) if watcher.steps and self.count(watcher)])
        for at in reversed(range(len(thing.slots))):
            self.slot(thing, at, None)
        thing.target = None
        self.blocks.give(thing.block)
        del self.things[thing.number]
        self.past.append(("free", thing.number))
        if thing.form != "leaf":
            self.counters[0] = max(0, self.counters[0] - 1)

    def sift(self, order):
        inner = [held for thing in order for held in thing.slots]
        marks = {thing: self.count(thing) - inner.count(thing) for thing in order}
        line, kept, aside = list(order), [], []
        while line:
            thing = line.pop(0)
            if not marks[thing]:
                aside.append(thing)
                continue
            kept.append(thing)
            for held in thing.slots[::-1]:
                if held in marks and not marks[held]:
                    marks[held] = 1
                    if held in aside:
                        aside.remove(held)
                        line.append(held)
        return kept, aside

    def collect(self, upto):
        if self.lost is not None:
            return 0
        self.counters[:upto + 1] = [0] * (upto + 1)
        if upto < 2:
            self.counters[upto + 1] += 1
        order = [thing for at in (upto, *range(upto)) for thing in self.lists[at]]
        self.lists[:upto + 1] = [[] for _ in range(upto + 1)]
        kept, self.lost = self.sift(order)
        older = self.lists[min(upto + 1, 2)]
        older += kept
        for thing in kept:
            held = [other for other in thing.slots if other is not None]
            leading = [other for other in held if other.form in ("row", "weak") or self.place(other) is not None]
            if thing.form == "fixed" and not leading:
                older.remove(thing)
        left = len([thing for thing in kept if thing in older])
        if upto == 1:
            self.kept_by_1 += left
        if upto == 2:
            self.kept_by_1, self.kept_by_2 = 0, left
        self.ask_all_lost()
        kept, self.lost = self.sift(self.lost)
        older += kept
        found = len(self.lost)
        while self.lost:
            self.break_up(self.lost[0], older)
        self.lost = None
        self.tours[upto] = (self.tours[upto][0] + 1, self.tours[upto][1] + found)
        return found

    def ask_all_lost(self):
        lost = list(self.lost)
        parted = []
        for thing in lost:
            thing.target = None
            parted += self.part(thing)
        self.call([watcher for watcher in parted if watcher.steps and watcher not in lost])
        for thing in lost:
            if thing in self.lost and thing.steps and thing.form != "weak" and not thing.asked:
                self.hands.append(thing)
                self.ask_for_steps(thing)
                self.open_hand(thing)

    def break_up(self, thing, older):
        self.hands.append(thing)
        if thing.form == "row":
            for at in reversed(range(len(thing.slots))):
                self.slot(thing, at, None)
        self.open_hand(thing)
        if thing in self.lost:
            self.lost.remove(thing)
            older.append(thing)

    def come(self, name, form, slots, steps, extra, target):
        needed = [thing for thing in (*slots, target) if thing is not None]
        self.hands += needed
        if form != "leaf":
            self.counters[0] += 1
            if self.is_on and self.bounds[0] and self.counters[0] > self.bounds[0]:
                over = [at for at in (2, 1, 0) if self.counters[at] > self.bounds[at]]
                if over[0] == 2 and self.kept_by_1 < self.kept_by_2 // 4:
                    del over[0]
                self.collect(over[0])
        thing = ModelThing(self.made, form, slots, steps, target)
        self.made += 1
        size = {"leaf": 16, "row": 56, "fixed": 40, "weak": 72}[form] + 8 * len(slots) + extra
        thing.block = self.blocks.take(size)
        self.things[thing.number] = thing
        if form != "leaf":
            self.lists[0].append(thing)
        self.name(name, thing)
        for other in needed:
            self.open_hand(other)
        return thing.number

    def do(self, deed):
        word, *parts = deed
        freed = len(self.things)
        told = getattr(self, "do_" + word)(*parts)
        self.deeds.append(deed)
        return freed - len(self.things) if told == "freed" else told

    def check_name(self, name):
        if not (isinstance(name, str) and name.isascii() and name.isalpha() and name.islower() and len(name) <= 6):
            raise Refused("NoName")

    def called(self, name):
        if not isinstance(name, str) or name not in self.names:
            raise Refused("NoThing")
        return self.names[name]

    def check_steps(self, steps, words):
        if not isinstance(steps, tuple) or not all(step[0] in words for step in steps) or ("clear", 8) in steps:
            raise Refused("NoSteps")

    def slot_of(self, thing, at):
        if type(at) is not int or not 0 <= at < len(thing.slots):
            raise Refused("NoSlot", many=len(thing.slots))
        return thing.slots[at]

    def do_make(self, name, form, holding, stepping, extra):
        self.check_name(name)
        if form not in ("leaf", "row", "fixed"):
            raise Refused("NoForm")
        if len(holding) > (0 if form == "leaf" else 8):
            raise Refused("NoThing")
        slots = [None if other is None else self.called(other) for other in holding]
        self.check_steps(stepping, ("save", "forget", "clear", "fail", "collect"))
        if not 0 <= extra <= (2000 if form == "leaf" else 0):
            raise Refused("NoSize")
        return self.come(name, form, slots, stepping, extra, None)

    def do_let(self, name, other):
        self.check_name(name)
        thing = self.called(other)
        self.name(name, thing)
        return thing.number

    def do_forget(self, name):
        self.called(name)
        self.name(name, None)
        return "freed"

    def do_put(self, name, at, other):
        thing = self.called(name)
        if thing.form != "row":
            raise Refused("NoRow", form=thing.form)
        self.slot_of(thing, at)
        self.slot(thing, at, None if other is None else self.called(other))
        return "freed"

    def do_take(self, name, other, at):
        self.check_name(name)
        thing = self.slot_of(self.called(other), at)
        if thing is None:
            raise Refused("Bare")
        self.name(name, thing)
        return thing.number

    def do_weaken(self, name, other, stepping):
        self.check_name(name)
        target = self.called(other)
        if target.form == "weak":
            raise Refused("NoTarget")
        self.check_steps(stepping, ("forget", "fail", "collect"))
        return self.come(name, "weak", [], stepping, 0, target)

    def do_ask(self, name, other):
        self.check_name(name)
        weak = self.called(other)
        if weak.form != "weak":
            raise Refused("NotWeak")
        if weak.target is None:
            raise Refused("Gone")
        thing = weak.target
        self.name(name, thing)
        return thing.number

    def do_collect(self, upto):
        if type(upto) is not int or not 0 <= upto <= 2:
            raise Refused("NoNumber")
        return self.collect(upto)

    def do_bounds(self, *bounds):
        if not all(type(bound) is int and 0 <= bound <= 999 for bound in bounds):
            raise Refused("NoNumber")
        self.bounds = bounds

    def do_switch(self, is_on):
        if not isinstance(is_on, bool):
            raise Refused("NoNumber")
        was_on, self.is_on = self.is_on, is_on
        return was_on

    def do_freeze(self):
        self.lists = [[], [], [], self.lists[3] + self.lists[0] + self.lists[1] + self.lists[2]]
        self.counters = [0, 0, 0]
        return len(self.lists[3])

    def do_thaw(self):
        frozen = self.lists[3]
        self.lists[2] += frozen
        self.lists[3] = []
        return len(frozen)

    def outcome(self, deed):
        try:
            return (self.do(deed), None)
        except Refused as refusal:
            return (None, refusal.told)

    def seen(self):
        def number(thing):
            return None if thing is None else thing.number

        return {
            "len": len(self.things),
            "repr": f"World({len(self.things)}, {len(self.names)}, {self.blocks.bytes_out()[0]})",
            "names": sorted((name, thing.number) for name, thing in self.names.items()),
            "things": {
                thing.number: {
                    "form": thing.form,
                    "slots": [number(held) for held in thing.slots],
                    "count": self.count(thing),
                    "place": self.place(thing),
                    "target": number(thing.target),
                    "watchers": [watcher.number for watcher in self.watchers(thing)],
                    "asked": thing.asked,
                    "block": thing.block,
                }
                for thing in self.things.values()
            },
            "lists": [[thing.number for thing in things] for things in self.lists],
            "counters": tuple(self.counters),
            "tours": self.tours,
            "past": self.past,
            "deeds": self.deeds,
            "blocks": self.blocks.live(),
        }


class BesideTheModel(unittest.TestCase):
    def test_drawn_histories(self):
        words = {}
        for at in range(240):
            named = made_with(at)
            world, model, drawing = World(**named), Model(*named.values()), Drawing(at)
            for step in range(100):
                deed = drawing.deed(world)
                told = outcome(do, world, deed)
                with self.subTest(at=at, step=step, deed=deed):
                    self.assertEqual(told, model.outcome(deed))
                    self.assertEqual(seen_world(world), model.seen())
            for word, number in past(world):
                words[word] = words.get(word, 0) + 1
        # Histories in which little happens would show little.
        self.assertGreater(min(words[word] for word in ("last", "call", "failed", "free")), 300)

    def test_histories_of_deep_things(self):
        for at in range(40):
            world, model = World(nesting=2), Model(4096, 16, 2)
            numbers, drawing = Numbers(1000 + at), Drawing(2000 + at)
            for step in range(60):
                deed = drawing.deed(world)
                if numbers.below(2) and called(world):
                    name = drawing.known(world)
                    steps = drawing.steps(("save", "forget", "clear", "collect", "collect"))
                    deed = ("make", name, numbers.one_of(("row", "fixed")), (name, drawing.known(world)), steps, 0)
                told = outcome(do, world, deed)
                with self.subTest(at=at, step=step, deed=deed):
                    self.assertEqual(told, model.outcome(deed))
                    self.assertEqual(seen_world(world), model.seen())


def held_by(world, number):
    return [held for held in slots_of(world, number) if held is not None]


def walked(world, starts):
    found = list(dict.fromkeys(starts))
    for number in found:
        found += [held for held in dict.fromkeys(held_by(world, number)) if held not in found]
    return set(found)


def reachable(world):
    return walked(world, [number for name, number in called(world)])


def tracked_up_to(world, upto):
    return {number for place in range(upto + 1) for number in listed(world, place)}


class EachDeed(unittest.TestCase):
    """What 0.2 says, seen from outside alone."""

    def assert_counts(self, world):
        held = [number for name, number in called(world)]
        for number in alive(world):
            held += slots_of(world, number)
        for number in alive(world):
            self.assertEqual(count_of(world, number), held.count(number))
            self.assertGreater(count_of(world, number), 0)
        self.assertLessEqual({number for number in held if number is not None}, set(alive(world)))

    def assert_lists(self, world):
        lists = [listed(world, place) for place in range(4)]
        tracked = [number for numbers in lists for number in numbers]
        self.assertEqual(len(tracked), len(set(tracked)))
        for number in alive(world):
            places = [place for place in range(4) if number in lists[place]]
            self.assertEqual(places, [] if place_of(world, number) is None else [place_of(world, number)])
            self.assertTrue(places or form_of(world, number) in ("leaf", "fixed"))
            self.assertFalse(places and form_of(world, number) == "leaf")

    def assert_weak(self, world):
        for number in alive(world):
            for watcher in watchers_of(world, number):
                self.assertEqual(target_of(world, watcher), number)
            if form_of(world, number) == "weak" and target_of(world, number) is not None:
                self.assertIn(number, watchers_of(world, target_of(world, number)))

    def assert_blocks(self, world):
        self.assertEqual(
            sorted(map(str, (block_of(world, number) for number in alive(world)))),
            sorted(str(place) for place, size in world.heap.blocks.live()),
        )

    def assert_unfreed_is_in_rings(self, world):
        """What no name leads to is in a ring, or is led to from one."""
        lost = set(alive(world)) - reachable(world)
        rings = {number for number in lost if number in walked(world, held_by(world, number))}
        self.assertLessEqual(lost, walked(world, sorted(rings)))

    def assert_past(self, world):
        """Steps are done once at most, and ahead of freeing; nothing is freed twice."""
        events = past(world)
        freed_at = {number: at for at, (word, number) in enumerate(events) if word == "free"}
        for word in ("last", "call", "free"):
            numbers = [number for told, number in events if told == word]
            self.assertEqual(len(numbers), len(set(numbers)), word)
        for at, (word, number) in enumerate(events):
            self.assertLessEqual(at, freed_at.get(number, at))
        self.assertEqual(set(freed_at) & set(alive(world)), set())
        for number in alive(world):
            self.assertEqual(was_asked(world, number), ("last", number) in events)

    def test_over_drawn_histories(self):
        for at in range(60):
            world, drawing = World(**made_with(at)), Drawing(5000 + at)
            for step in range(80):
                deed = drawing.deed(world)
                before, named = seen_world(world), reachable(world)
                told, refusal = outcome(do, world, deed)
                with self.subTest(at=at, step=step, deed=deed):
                    if refusal:
                        self.assertEqual(seen_world(world), before)
                        continue
                    self.assertEqual(world.deeds(), before["deeds"] + [deed])
                    self.assertEqual(past(world)[:len(before["past"])], before["past"])
                    self.assert_counts(world)
                    self.assert_lists(world)
                    self.assert_weak(world)
                    self.assert_blocks(world)
                    self.assert_unfreed_is_in_rings(world)
                    new = past(world)[len(before["past"]):]
                    freed = [number for word, number in new if word == "free"]
                    if deed[0] in ("forget", "put"):
                        self.assertEqual(told, len(freed))
                    if not [word for word, number in new if word in ("last", "call")]:
                        # Nothing was forgotten but by the deed itself.
                        self.assertEqual(set(freed) & reachable(world), set())
                        if deed[0] in ("collect", "freeze", "thaw"):
                            self.assertEqual(set(freed) & named, set())
            self.assert_past(world)

    def test_a_collection_finds_what_a_walk_does_not_reach(self):
        found = 0
        for at in range(120):
            world = drawn_world(7000 + at, 60, steps=False)
            for upto in (0, 1, 2):
                looked = tracked_up_to(world, upto)
                names = [number for name, number in called(world)]
                lost = looked - walked(world, names + sorted(set(alive(world)) - looked))
                reached = reachable(world)
                self.assertEqual(world.collect(upto), len(lost))
                found += len(lost)
                self.assertEqual(set(alive(world)) & lost, set())
                self.assertLessEqual(reached, set(alive(world)))
            # Nothing was asked or called, and so behind a collection of all lists nothing is left that is lost.
            elsewhere = [number for number in alive(world) if place_of(world, number) in (None, 3)]
            left = walked(world, [number for name, number in called(world)] + elsewhere)
            self.assertEqual(set(alive(world)) - left, set())
        self.assertGreater(found, 100)

    def test_what_is_found_does_not_hang_on_the_order_of_things(self):
        for at in range(40):
            world = drawn_world(9000 + at, 60, steps=False, freezing=False)
            world.collect(1)
            lists = [listed(world, place) for place in range(3)]
            self.assertEqual(lists[:2], [[], []])
            turned = drawn_world(9000 + at, 60, steps=False, freezing=False)
            turned.collect(1)
            for number in reversed(lists[2]):
                turned.heap.track(number, 2)
            self.assertEqual(listed(turned, 2), lists[2][::-1])
            self.assertEqual(world.collect(), turned.collect())
            self.assertEqual(alive(world), alive(turned))

    def test_a_weak_thing_tells_its_target_as_long_as_it_is_there(self):
        many = 0
        for at in range(60):
            # Without steps all that is found lost is freed, so a weak thing and its target that are there were not.
            world, drawing = World(**made_with(at)), Drawing(11000 + at, steps=False)
            targets = {}
            for _ in range(80):
                outcome(do, world, drawing.deed(world))
                there = alive(world)
                for number in there:
                    if form_of(world, number) == "weak":
                        target = targets.setdefault(number, target_of(world, number))
                        self.assertEqual(target_of(world, number), target if target in there else None)
                        many += target in there
        self.assertGreater(many, 1000)

    def test_played_again_all_happens_alike(self):
        for at in range(60):
            world = drawn_world(13000 + at, 80)
            other = World(**made_with(13000 + at))
            for deed in world.deeds():
                do(other, deed)
            self.assertEqual(seen_world(other), seen_world(world))
            self.assertEqual(other, world)
            self.assertEqual(tours(other), tours(world))


if __name__ == "__main__":
    unittest.main()
