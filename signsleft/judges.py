"""Rows of deeds, judged and done; sites held against one another, written and read."""

from signsleft.deeds import deed_row, done, read_deed
from signsleft.errors import (
    Away, Barred, Clash, NoDeed, NoName, NoPage, NoPart, NoRow, NoRule, NotAway, NoText, Ring, Same, Sign, Stopped,
    Taken, TooLong,
)
from signsleft.sites import Site


def judged(site, deeds):
    """What a row of deeds would do to a site: ("goes", changed) or ("stops", at, word)."""
    behind = site.was(None)
    refused = first_refusal(behind, deeds)
    if refused is not None:
        return "stops", refused[0], refused[1]
    return "goes", changed_pages(site, behind)


def replay(deeds):
    """A new site behind a row of deeds."""
    site = Site()
    refused = first_refusal(site, deeds)
    if refused is not None:
        raise Stopped(refused[0])
    return site


def differ(site, other):
    """The tuples (name, here, there), sorted, of the names that lead in the one site otherwise than in the other."""
    names = sorted(set(site.names_known() + other.names_known()))
    told = [(name, end_of(site, name), end_of(other, name)) for name in names]
    return [row for row in told if row[1] != row[2]]


def written(site):
    """A site as a text: the rows of its deeds, each with a line end behind it."""
    return "".join([deed_row(deed) + "\n" for deed in site.deeds()])


def read_site(text):
    """The site that a text is written for."""
    if not isinstance(text, str):
        raise NoRow("not a text")
    rows = text.split("\n")
    if rows[-1] != "":
        raise NoRow("something stands behind the last line end")
    return replay([read_deed(row) for row in rows[:-1]])


def first_refusal(site, deeds):
    """Does deeds to a site up to the first that is refused: its number and refusal, or None where all were done."""
    for at, deed in enumerate(deeds):
        word = refusal_of(site, deed)
        if word is not None:
            return at, word
    return None


def refusal_of(site, deed):
    """Does a deed to a site: the word of its refusal, or None where it was done."""
    try:
        done(site, deed)
    except NoDeed:
        return "nodeed"
    except NoName:
        return "noname"
    except NoText:
        return "notext"
    except NoRule:
        return "norule"
    except NoPage:
        return "nopage"
    except Sign:
        return "sign"
    except Away:
        return "away"
    except NotAway:
        return "notaway"
    except NoPart:
        return "nopart"
    except Taken:
        return "taken"
    except Barred:
        return "barred"
    except Same:
        return "same"
    except Clash:
        return "clash"
    except TooLong:
        return "toolong"
    except Ring:
        return "ring"
    return None


def changed_pages(site, behind):
    """The pages, rising, that a site has behind some deeds, and either had not ahead of them or had otherwise."""
    made = site.made()
    return [number for number in range(behind.made()) if number >= made or seen(site, number) != seen(behind, number)]


def seen(site, number):
    """What a page is held against its elder self by."""
    return site.called(number), site.stands_now(number), site.shows_now(number)


def end_of(site, name):
    """What a name leads to, told without numbers and signs."""
    lead = site.lead(name)
    if lead[0] == "nothing":
        return "nothing", lead[1]
    return lead[0], site.called(lead[1])
