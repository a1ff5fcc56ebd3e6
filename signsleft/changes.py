"""The deeds of a site: each looks at a table, and makes the later one, or is refused.

Names, parts and texts that are handed in here were looked at already. Ring is left to the site.
"""

from signsleft.backs import bar_of
from signsleft.errors import Away, Barred, Clash, NoPage, NoRule, NotAway, Same, Sign, Taken, TooLong
from signsleft.names import is_in_family, moved, target_row
from signsleft.texts import borne, cut, parts_of
from signsleft.ways import lead_of, steps

MOST_SIGNS_MADE = 2000


def page_in(entry):
    """The number of the page that an entry is."""
    if entry is None:
        raise NoPage("the name is free")
    if entry[0] == "sign":
        raise Sign("a sign stands at the name")
    if entry[0] == "away":
        raise Away("the page at the name was taken away")
    return entry[1]


def page_at(table, name):
    """The number of the page at a name."""
    return page_in(table.entries.get(name))


def need_no_page(table, name):
    """Refuses a name at which a page stands."""
    entry = table.entries.get(name)
    if entry is not None and entry[0] == "page":
        raise Taken("a page stands at the name")


def need_no_bar(table, name):
    """Refuses a name that is barred."""
    number = bar_of(table, name)
    if number is not None:
        raise Barred(number)


def need_place(table, name):
    """Refuses a name at which there is no place."""
    need_no_page(table, name)
    need_no_bar(table, name)


def need_place_for(table, number, new):
    """Refuses a name at which there is no place for a page that is renamed."""
    if not was_its_own(table, number, new):
        need_place(table, new)


def was_its_own(table, number, name):
    """Whether a name leads, by signs without parts alone, to a page."""
    entry = table.entries.get(name)
    while entry is not None and entry[0] == "sign" and entry[2] is None:
        entry = table.entries.get(entry[1])
    return entry == ("page", number)


def after_write(table, name, text):
    """The table behind the writing of a text at a name."""
    entry = table.entries.get(name)
    if entry is None or entry[0] != "page":
        need_place(table, name)
        later = table.later()
        later.make_page(name, text)
        return later
    if table.text_now(entry[1]) == text:
        raise Same("the page has this text already")
    later = table.later()
    later.give_text(entry[1], text)
    return later


def move_page(later, number, new):
    """Moves a page to a place, and leaves a sign at its elder name."""
    later.entries[later.name_now(number)] = ("sign", new, None)
    later.entries[new] = ("page", number)
    later.give_name(number, new)


def after_rename(table, name, new):
    """The table behind the renaming of the page at a name."""
    number = page_at(table, name)
    if name == new:
        raise Same("both are one name")
    need_place_for(table, number, new)
    later = table.later()
    move_page(later, number, new)
    return later


def after_family(table, stem, new):
    """The table behind the renaming of a stem's family."""
    if is_in_family(stem, new) or is_in_family(new, stem):
        raise NoRule("one stem is of the other one's family")
    names = [table.name_now(number) for number in table.standing_numbers()]
    family = sorted([name for name in names if is_in_family(name, stem)])
    if not family:
        raise NoPage("no page of the family stands")
    for name in family:
        need_place_for(table, page_at(table, name), moved(name, stem, new))
    later = table.later()
    for name in family:
        move_page(later, page_at(table, name), moved(name, stem, new))
    return later


def after_part(table, name, part, new):
    """The table behind the parting of the page at a name."""
    number = page_at(table, name)
    rest, section = cut(table.text_now(number), part)
    need_place(table, new)
    later = table.later()
    later.give_text(number, rest)
    later.make_page(new, section)
    # A text may have a part twice, and then the page still has it.
    if part not in parts_of(rest):
        later.part_signs[(number, part)] = new
    return later


def after_join(table, name, other):
    """The table behind the joining of the page at a name into the one at another name."""
    first = page_at(table, name)
    into = page_at(table, other)
    if first == into:
        raise Same("both are one page")
    if clashes(table, first, into) or clashes(table, into, first):
        raise Clash("a sign of a part of the one page is in the way of the other one")
    text = table.text_now(into) + "\n" + table.text_now(first)
    if len(text) > MOST_SIGNS_MADE:
        raise TooLong("the texts joined are too long")
    later = table.later()
    later.give_text(into, text)
    later.entries[name] = ("sign", other, None)
    for part in table.parts_with_signs(first):
        later.part_signs[(into, part)] = table.part_signs[(first, part)]
    return later


def clashes(table, number, other):
    """Whether a part that a page has a sign of is a part of another one, or has a sign there, too."""
    for part in table.parts_with_signs(number):
        if table.has_part(other, part) or (other, part) in table.part_signs:
            return True
    return False


def after_away(table, name):
    """The table behind the taking away of the page at a name."""
    number = page_at(table, name)
    later = table.later()
    later.entries[name] = ("away", number)
    return later


def after_back(table, name):
    """The table behind the bringing back of the page that is away at a name."""
    entry = table.entries.get(name)
    if entry is None or entry[0] != "away":
        raise NotAway("no page was taken away at the name")
    later = table.later()
    later.entries[name] = ("page", entry[1])
    return later


def after_sign(table, name, target, part):
    """The table behind the putting of a sign at a name."""
    need_no_page(table, name)
    sign = ("sign", target, part)
    if table.entries.get(name) == sign:
        raise Same("this very sign stands there")
    need_no_bar(table, name)
    later = table.later()
    later.entries[name] = sign
    return later


def after_straight(table):
    """The table behind the straightening of all signs."""
    straight = {name: straight_entry(table, table.entries[name]) for name in table.entries}
    if straight == table.entries:
        raise Same("each sign is straight already")
    later = table.later()
    later.entries = straight
    return later


def straight_entry(table, entry):
    """An entry; where it is a sign, one that leads at once to where it leads by entries that are signs alone."""
    if entry[0] != "sign":
        return entry
    target = entry[1]
    part = entry[2]
    onward = table.entries.get(target)
    while onward is not None and onward[0] == "sign":
        target = onward[1]
        if part is None:
            part = onward[2]
        onward = table.entries.get(target)
    return "sign", target, part


def after_renew(table, name):
    """The table behind the renewing of the page at a name."""
    number = page_at(table, name)
    text = table.text_now(number)
    renewed = renewed_text(table, text)
    # What is borne anew is written otherwise: else its way would come to one name with one part twice.
    if renewed == text:
        raise Same("nothing is borne anew")
    if len(renewed) > MOST_SIGNS_MADE:
        raise TooLong("the text renewed is too long")
    later = table.later()
    later.give_text(number, renewed)
    return later


def renewed_text(table, text):
    """A text in which each name that leads by signs to a page is borne anew."""
    renewed = ""
    behind = 0
    for begin, end, word, name, part in borne(text):
        lead = lead_of(table, name, part)
        if lead[0] == "page" and lead[3] > 0:
            last, asked = steps(table, name, part)[-1]
            renewed += text[behind:begin] + "[[" + target_row(last, asked) + "|" + word + "]]"
            behind = end
    return renewed + text[behind:]
