"""Names of pages and of their parts: how they are written, and what they come to."""

from signsleft.errors import NoName, NoRule

SIGNS = "abcdefghijklmnopqrstuvwxyzABCDEFGHIJKLMNOPQRSTUVWXYZ0123456789 _-/"
MOST_SEGMENTS = 4
MOST_SIGNS = 24
MOST_PART_SIGNS = 12


def is_name(thing):
    """Whether anything is written as a name."""
    try:
        name_of(thing)
    except NoName:
        return False
    return True


def name_of(thing):
    """The name that anything is written as."""
    if not isinstance(thing, str) or not has_only_signs(thing):
        raise NoName("not written with the signs of a name")
    name = come_to(thing)
    if not is_within_bounds(name):
        raise NoName("a name has one to four segments, none of them empty, and at most 24 signs")
    return name


def part_of(thing):
    """The part's name that anything is written as."""
    part = name_of(thing)
    if "/" in part or len(part) > MOST_PART_SIGNS:
        raise NoName("a part's name has one segment and at most 12 signs")
    return part


def target_of(thing):
    """The tuple (name, part) that anything is written as, NAME or NAME#PART; part None where there is none."""
    if not isinstance(thing, str):
        raise NoName("not a text")
    name, mark, part = thing.partition("#")
    if not mark:
        return name_of(name), None
    return name_of(name), part_of(part)


def target_row(name, part):
    """How target_of is handed a name and a part, or None."""
    if part is None:
        return name
    return name + "#" + part


def is_of(name, stem):
    """Whether a name is of a stem's family."""
    return is_in_family(name_of(name), name_of(stem))


def moved(name, stem, new):
    """A name of a stem's family, with another stem in the place of its own."""
    old_name = name_of(name)
    old_stem = name_of(stem)
    new_stem = name_of(new)
    if is_in_family(old_stem, new_stem) or is_in_family(new_stem, old_stem):
        raise NoRule("one stem is of the other one's family")
    if not is_in_family(old_name, old_stem):
        raise NoRule("the name is not of the stem's family")
    # Another stem may be longer, so what comes of it is looked at once more.
    return name_of(new_stem + old_name[len(old_stem):])


def has_only_signs(text):
    """Whether all signs of a text may stand in a written name."""
    for sign in text:
        if sign not in SIGNS:
            return False
    return True


def come_to(writing):
    """What a writing comes to, which may still be no name."""
    return "/".join([segment_come_to(segment) for segment in writing.split("/")])


def segment_come_to(writing):
    """What one segment of a writing comes to."""
    strokes = writing.lower().replace(" ", "_").replace("-", "_")
    return "_".join([word for word in strokes.split("_") if word])


def is_within_bounds(name):
    """Whether what a writing came to has the segments and the length of a name."""
    segments = name.split("/")
    return len(segments) <= MOST_SEGMENTS and "" not in segments and len(name) <= MOST_SIGNS


def is_in_family(name, stem):
    """Whether a name is of a stem's family, both told as what they come to."""
    return name == stem or name.startswith(stem + "/")
