"""Texts: the names that they bear, and their parts."""

from signsleft.errors import NoName, NoPart, NoText
from signsleft.names import part_of, target_of

MOST_SIGNS_HANDED_IN = 400


def need_text(thing):
    """Refuses what cannot be handed in as the text of a page."""
    if not isinstance(thing, str):
        raise NoText("not a text")
    if len(thing) > MOST_SIGNS_HANDED_IN:
        raise NoText("a text that is handed in has at most 400 signs")


def pieces(text):
    """The pieces of a text: ("text", signs) and ("name", word, name, part)."""
    told = []
    behind = 0
    for begin, end, word, name, part in borne(text):
        if behind < begin:
            told.append(("text", text[behind:begin]))
        told.append(("name", word, name, part))
        behind = end
    if behind < len(text):
        told.append(("text", text[behind:]))
    return told


def named(text):
    """The names that a text bears: sorted tuples (name, part), part "" where there is none."""
    return sorted({(name, part or "") for begin, end, word, name, part in borne(text)})


def parts_of(text):
    """The names of a text's parts, in their order, each once."""
    parts = {}
    for row in text.split("\n"):
        part = head_of(row)
        if part is not None:
            parts[part] = True
    return list(parts)


def cut(text, part):
    """A text cut at a part: the tuple (rest, section)."""
    wanted = part_of(part)
    rows = text.split("\n")
    heads = [head_of(row) for row in rows]
    if wanted not in heads:
        raise NoPart("the text has no such part")
    begin = heads.index(wanted)
    end = begin + 1
    while end < len(rows) and heads[end] is None:
        end += 1
    return "\n".join(rows[:begin] + rows[end:]), "\n".join(rows[begin + 1:end])


def borne(text):
    """Where a text bears names: tuples (begin, end, word, name, part), end right behind the brackets."""
    found = []
    begin = text.find("[[")
    while begin != -1:
        one = borne_at(text, begin)
        if one is None:
            # Only the first bracket is plain for certain: in "[[[a]]" a name begins at the second one.
            begin = text.find("[[", begin + 1)
        else:
            found.append(one)
            begin = text.find("[[", one[1])
    return found


def borne_at(text, begin):
    """The name borne in the brackets at a place, as borne tells it, or None."""
    close = inside_end(text, begin + 2)
    if not text.startswith("]]", close):
        return None
    inside = text[begin + 2:close]
    target, stroke, word = inside.partition("|")
    if stroke and (word == "" or "|" in word):
        return None
    try:
        name, part = target_of(target)
    except NoName:
        return None
    shown = word if stroke else inside
    return begin, close + 2, shown, name, part


def inside_end(text, at):
    """The place, from at on, of the first sign that cannot stand between brackets, or the text's end."""
    while at < len(text) and text[at] not in "[]\n":
        at += 1
    return at


def head_of(row):
    """The name of the part that a row is the head of, or None."""
    if not row.startswith("= ") or not row.endswith(" ="):
        return None
    try:
        return part_of(row[2:-2])
    except NoName:
        return None
