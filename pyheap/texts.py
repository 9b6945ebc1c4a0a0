"""Texts: worlds written line by line, and read again."""

from pyheap.errors import HeapError, NoText
from pyheap.histories import replayed

WORLD = "world"
NOTHING = "-"
ON = "on"
OFF = "off"
EMPTY = "."
FIGURES = "0123456789"
# No number of a world has more figures, and Python reads no number of very many.
GREATEST_FIGURE_COUNT = 9


def written_tuple(parts):
    """A holding or steps as text."""
    if len(parts) == 0:
        return EMPTY
    if isinstance(parts[0], tuple):
        return ";".join([":".join([written(part) for part in step]) for step in parts])
    return ",".join([written(part) for part in parts])


def written(part):
    """A part of a deed as text."""
    if part is None:
        return NOTHING
    if isinstance(part, bool):
        return ON if part else OFF
    if isinstance(part, tuple):
        return written_tuple(part)
    return str(part)


def world_text(world):
    """The text of a world: how it was made, then its deeds, line by line."""
    lines = [(WORLD, *world.made_with)] + world.deeds()
    return "".join([" ".join([written(part) for part in line]) + "\n" for line in lines])


def read_as_it_is(text):
    """A word or a name."""
    return text


def read_number(text):
    """A whole number by figures."""
    if not 1 <= len(text) <= GREATEST_FIGURE_COUNT or not all([sign in FIGURES for sign in text]):
        raise NoText("no number by figures")
    return int(text)


def read_name_or_none(text):
    """A name, or None."""
    return None if text == NOTHING else text


def read_truth(text):
    """True or False."""
    return text == ON


def read_holding(text):
    """A tuple of names and None."""
    if text == EMPTY:
        return ()
    return tuple([read_name_or_none(part) for part in text.split(",")])


def read_step(text):
    """A step."""
    parts = text.split(":")
    if parts[0] == "clear" and len(parts) == 2:
        return ("clear", read_number(parts[1]))
    return tuple(parts)


def read_steps(text):
    """A tuple of steps."""
    if text == EMPTY:
        return ()
    return tuple([read_step(part) for part in text.split(";")])


MADE_WITH_READERS = (read_number, read_number, read_number)
READERS = {
    "make": (read_as_it_is, read_as_it_is, read_holding, read_steps, read_number),
    "let": (read_as_it_is, read_as_it_is),
    "forget": (read_as_it_is,),
    "put": (read_as_it_is, read_number, read_name_or_none),
    "take": (read_as_it_is, read_as_it_is, read_number),
    "weaken": (read_as_it_is, read_as_it_is, read_steps),
    "ask": (read_as_it_is, read_as_it_is),
    "collect": (read_number,),
    "bounds": (read_number, read_number, read_number),
    "switch": (read_truth,),
    "freeze": (),
    "thaw": (),
}


def read_parts(texts, readers):
    """What these texts say, each read by its own reader."""
    if len(texts) != len(readers):
        raise NoText("a line has more or fewer parts than its word tells")
    parts = []
    for at, text in enumerate(texts):
        reader = readers[at]
        parts.append(reader(text))
    return parts


def read_deed(line):
    """The deed that a line tells."""
    word, *texts = line.split(" ")
    if word not in READERS:
        raise NoText("a line begins with no word of a deed")
    parts = read_parts(texts, READERS[word])
    return (word, *parts)


def read_lines(lines):
    """The world that these lines tell, without the line feeds."""
    texts = lines[0].split(" ")[1:]
    pool_bytes, pool_count, nesting = read_parts(texts, MADE_WITH_READERS)
    deeds = [read_deed(line) for line in lines[1:]]
    return replayed(deeds, pool_bytes=pool_bytes, pool_count=pool_count, nesting=nesting)


def read_world(text):
    """The world that a text tells."""
    if not isinstance(text, str):
        raise NoText("no text")
    lines = text.split("\n")
    try:
        world = read_lines(lines[:-1] or lines)
    except HeapError:
        raise NoText("no text of a world") from None
    # Whatever was read too kindly is not written so: noughts ahead, other words, or a missing end.
    if world_text(world) != text:
        raise NoText("no text of a world")
    return world
