"""Deeds as tuples and as rows."""

from signsleft.errors import NoDeed, NoName, NoRow, NoText
from signsleft.names import name_of, part_of, target_of, target_row
from signsleft.texts import need_text

OF_TWO_NAMES = ("rename", "join", "family")
OF_ONE_NAME = ("away", "back", "renew")


def done(site, deed):
    """Does a deed, told as a tuple, to a site."""
    match need_tuple(deed):
        case ("write", name, text):
            site.write(name, text)
        case ("rename", name, new):
            site.rename(name, new)
        case ("part", name, part, new):
            site.part(name, part, new)
        case ("join", name, other):
            site.join(name, other)
        case ("away", name):
            site.take_away(name)
        case ("back", name):
            site.bring_back(name)
        case ("sign", name, to):
            site.put_sign(name, to)
        case ("family", stem, new):
            site.rename_family(stem, new)
        case ("straight",):
            site.straighten()
        case ("renew", name):
            site.renew(name)
        case _:
            raise NoDeed("no deed has this word and length")


def deed_row(deed):
    """The row of a deed that is told as a tuple."""
    match plain_deed(deed):
        case ("write", name, text):
            return "write " + name + ": " + without_line_ends(text)
        case ("part", name, part, new):
            return "part " + name + " # " + part + " > " + new
        case (word, name, other):
            return word + " " + name + " > " + other
        case (word, name):
            return word + " " + name
        case (word,):
            return word


def read_deed(row):
    """The deed, as a tuple, that a row is written as."""
    if not isinstance(row, str):
        raise NoRow("not a text")
    try:
        return deed_in(row)
    except NoName:
        raise NoRow("a name of the row is none") from None
    except NoText:
        raise NoRow("the text of the row is too long") from None


def need_tuple(deed):
    """A deed, which is a tuple; a list that looks like one is none."""
    if not isinstance(deed, tuple):
        raise NoDeed("a deed is a tuple")
    return deed


def plain_deed(deed):
    """A deed with its names, parts and to as what they come to."""
    match need_tuple(deed):
        case ("write", name, text):
            return "write", name_of(name), plain_text(text)
        case ("part", name, part, new):
            return "part", name_of(name), part_of(part), name_of(new)
        case ("sign", name, to):
            return "sign", name_of(name), plain_target(to)
        case (word, name, other) if word in OF_TWO_NAMES:
            return word, name_of(name), name_of(other)
        case (word, name) if word in OF_ONE_NAME:
            return word, name_of(name)
        case ("straight",):
            return deed
        case _:
            raise NoDeed("no deed has this word and length")


def plain_text(text):
    """A text that can be handed in."""
    need_text(text)
    return text


def plain_target(to):
    """What a sign leads on to, NAME or NAME#PART, as what it comes to."""
    name, part = target_of(to)
    return target_row(name, part)


def deed_in(row):
    """The deed that a row is written as; NoName and NoText where its names or its text are none."""
    word, blank, rest = row.partition(" ")
    if word == "write":
        name, text = halves(rest, ": ")
        return plain_deed((word, name, with_line_ends(text)))
    if word == "part":
        name, behind = halves(rest, " # ")
        part, new = halves(behind, " > ")
        return plain_deed((word, name, part, new))
    if word == "sign" or word in OF_TWO_NAMES:
        name, other = halves(rest, " > ")
        return plain_deed((word, name, other))
    if word in OF_ONE_NAME:
        return plain_deed((word, rest))
    if row == "straight":
        return (word,)
    raise NoRow("no deed is written so")


def halves(text, mark):
    """What stands ahead of the first mark in a text, and what stands behind it."""
    first, found, second = text.partition(mark)
    if not found:
        raise NoRow("a mark between names is missing")
    return first, second


def without_line_ends(text):
    """A text as it is written in a row."""
    return text.replace("\\", "\\\\").replace("\n", "\\n")


def with_line_ends(writing):
    """The text that is written so in a row."""
    if "\n" in writing:
        raise NoRow("a line end in the row")
    told = []
    at = 0
    while at < len(writing):
        if writing[at] == "\\":
            told.append(sign_behind_backslash(writing[at + 1:at + 2]))
            at += 1
        else:
            told.append(writing[at])
        at += 1
    return "".join(told)


def sign_behind_backslash(sign):
    """What a backslash and the sign behind it, if there is one, are written for."""
    if sign == "n":
        return "\n"
    if sign == "\\":
        return "\\"
    raise NoRow("a backslash that is followed by neither n nor a backslash")
