"""A desk, at which a site is asked and changed by rows."""

from signsleft.changes import page_in
from signsleft.deeds import done, halves, read_deed
from signsleft.errors import NoName, NoRow
from signsleft.names import name_of, target_of
from signsleft.sites import Site

FIGURES = "0123456789"
MOST_FIGURES = 9


def name_in(writing):
    """The name that a row bears."""
    try:
        return name_of(writing)
    except NoName:
        raise NoRow("a name of the row is none") from None


def target_in(writing):
    """The tuple (name, part) that a row bears."""
    try:
        return target_of(writing)
    except NoName:
        raise NoRow("a name or a part of the row is none") from None


def time_in(writing):
    """The time that a row bears, which the site may not have."""
    if not 1 <= len(writing) <= MOST_FIGURES or any([sign not in FIGURES for sign in writing]):
        raise NoRow("a time is one to nine figures")
    if writing[0] == "0" and writing != "0":
        raise NoRow("a time has no nought ahead")
    return int(writing)


def page_named(site, name):
    """The number of the page at a name."""
    return page_in(site.entry(name))


def listed(names):
    """Names parted by commas."""
    return ",".join(names) or "none"


def called_all(site, numbers):
    """The names of some pages, parted by commas."""
    return listed([site.called(number) for number in numbers])


def lead_told(site, lead):
    """What a name leads to, with the names that pages have now."""
    kind, end, part, signs = lead
    name = end if kind == "nothing" else site.called(end)
    mark = "#" + part if kind == "page" and part is not None else ""
    return f"{kind} {name}{mark} {signs}"


def show_told(site, shown):
    """What a page shows, or none where it was not made yet."""
    if shown is None:
        return "none"
    told = []
    for piece in shown:
        if piece[0] == "name":
            told.append("{" + piece[1] + ": " + lead_told(site, piece[2]) + "}")
        else:
            told.append(piece[1])
    return "".join(told)


def lead_answer(site, rest):
    """lead NAME, lead NAME#PART"""
    name, part = target_in(rest)
    return lead_told(site, site.lead(name, part))


def show_answer(site, rest):
    """show NAME"""
    return show_told(site, site.shows(page_named(site, name_in(rest))))


def then_answer(site, rest):
    """then TIME NAME"""
    first, second = halves(rest, " ")
    at = time_in(first)
    number = page_named(site, name_in(second))
    return show_told(site, site.shows(number, at))


def backs_answer(site, rest):
    """backs NAME"""
    return called_all(site, site.backs(page_named(site, name_in(rest))))


def bars_answer(site, rest):
    """bars NAME"""
    number = site.bar(name_in(rest))
    return "none" if number is None else site.called(number)


def names_answer(site, rest):
    """names NAME"""
    return listed(site.names_to(page_named(site, name_in(rest))))


def nobody_answer(site):
    """nobody"""
    return called_all(site, site.unnamed())


def pages_answer(site):
    """pages"""
    return called_all(site, site.standing())


def time_answer(site):
    """time"""
    return str(site.time())


def tree_answer(site):
    """tree"""
    rows = ["/" * depth + segment for depth, segment, number in site.tree()]
    return "; ".join(rows) or "none"


ANSWERS = {
    "lead": lead_answer, "show": show_answer, "then": then_answer, "backs": backs_answer, "bars": bars_answer,
    "names": names_answer,
}
PLAIN_ANSWERS = {"nobody": nobody_answer, "pages": pages_answer, "time": time_answer, "tree": tree_answer}


class Desk:
    """A site that is asked and changed by rows."""

    def __init__(self):
        self.site = Site()

    def say(self, row):
        """Does the deed, or answers the question, that a row is."""
        if not isinstance(row, str):
            raise NoRow("not a text")
        if row in PLAIN_ANSWERS:
            plain_answer = PLAIN_ANSWERS[row]
            return plain_answer(self.site)
        word, blank, rest = row.partition(" ")
        if word in ANSWERS:
            answer = ANSWERS[word]
            return answer(self.site, rest)
        done(self.site, read_deed(row))
        return "ok"
