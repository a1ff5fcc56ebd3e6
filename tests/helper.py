"""What the tests share: sites built of rows, all that a site tells, and a plain site to hold it against.

The plain site does what DOC.md says in the plainest way: it keeps whole copies, and looks at everything anew.
"""

import copy
import unittest

from signsleft import errors
from signsleft.deeds import done, read_deed
from signsleft.errors import NoName, SignError
from signsleft.names import is_of, moved, name_of, part_of
from signsleft.sites import Site
from signsleft.texts import cut, named, parts_of, pieces

NAMES = ("a", "b", "c", "d", "a/x", "a/y", "b/x", "c/x", "d/y/z", "a/x/y", "e", "f", "g", "f/x", "h_h")
PARTS = ("p", "q", "r")
WORDS = ("write", "rename", "part", "join", "away", "back", "sign", "family", "straight", "renew")


def site_of(*rows):
    """The site behind the deeds of these rows."""
    site = Site()
    for row in rows:
        done(site, read_deed(row))
    return site


def text_row(text):
    return text.replace("\\", "\\\\").replace("\n", "\\n")


def refusal(call, *given):
    """The refusal of a call, as its class's name and its value; None where it is not refused."""
    try:
        call(*given)
    except SignError as error:
        return type(error).__name__, next(iter(vars(error).values()), None)
    return None


def known_names(site):
    names = set(NAMES)
    for number in range(site.made()):
        for at in site.stands(number):
            name, text = site.stand(number, at)
            names.add(name)
            names.update(one for one, part in named(text))
    for deed in site.deeds():
        if deed[0] not in ("family", "straight"):
            names.add(deed[1])
        if deed[0] == "sign":
            names.add(deed[2].partition("#")[0])
    return sorted(names)


def told_now(site, names):
    """All that a site tells without a time."""
    numbers = range(site.made())
    return {
        "time": site.time(), "made": site.made(), "deeds": site.deeds(), "standing": site.standing(),
        "unnamed": site.unnamed(), "loose": site.loose(), "tree": site.tree(),
        "stands": [site.stands(number) for number in numbers],
        "stands_now": [site.stands_now(number) for number in numbers],
        "called": [site.called(number) for number in numbers],
        "text": [site.text(number) for number in numbers],
        "names_to": [site.names_to(number) for number in numbers],
        "backs": [site.backs(number) if site.stands_now(number) else None for number in numbers],
        "namers": [site.namers(name) for name in names],
        "bar": [site.bar(name) for name in names],
        "story": [site.story(name) for name in names],
    }


def told_at(site, names, at):
    """All that a site tells of a time, but what is seen now."""
    numbers = range(site.made())
    return {
        "entry": [site.entry(name, at) for name in names],
        "part_sign": [site.part_sign(number, part, at) for number in numbers for part in PARTS],
        "lead": [site.lead(name, part, at) for name in names for part in (None, *PARTS)],
        "way": [site.way(name, part, at) for name in names for part in (None, *PARTS)],
        "stand": [site.stand(number, at) for number in numbers],
        "shows": [site.shows(number, at) for number in numbers],
    }


def seen_now(site, at):
    return [site.shows_now(number, at) for number in range(site.made())]


def all_told(site):
    """All that a site tells, now and at each time."""
    names = known_names(site)
    times = range(site.time() + 1)
    return (
        told_now(site, names), [told_at(site, names, at) for at in times], [seen_now(site, at) for at in times],
    )


class SiteCase(unittest.TestCase):
    maxDiff = 2000

    def refuse(self, error, call, *given):
        """Holds that a call is refused with just this class, and tells the refusal."""
        with self.assertRaises(SignError, msg=repr(given)) as caught:
            call(*given)
        self.assertIs(type(caught.exception), error, repr(given))
        return caught.exception

    def refuse_row(self, error, site, row):
        """Holds that a deed is refused, and that the site stays as it was by that."""
        return self.refuse_deed(error, site, read_deed(row))

    def refuse_deed(self, error, site, deed):
        before = all_told(site)
        refused = self.refuse(error, done, site, deed)
        self.assertEqual(all_told(site), before, deed)
        return refused

    def refuse_deeds(self, error, site, deeds):
        """As refuse_deed, of many deeds, held against the site once behind all of them."""
        before = all_told(site)
        for deed in deeds:
            self.refuse(error, done, site, deed)
        self.assertEqual(all_told(site), before, deeds)

    def refuse_barred(self, page, site, row):
        self.assertEqual(self.refuse_row(errors.Barred, site, row).page, page, row)


# The plain site.

class Refused(Exception):
    def __init__(self, word, value=None):
        super().__init__(word)
        self.word = word
        self.value = value


def plain_way(state, name, part):
    """The places (name, part) of a way, or None where it is round."""
    places = []
    while (name, part) not in places:
        places.append((name, part))
        entry = state["entries"].get(name)
        if entry is not None and entry[0] == "sign":
            name, part = entry[1], part if part is not None else entry[2]
        elif entry is not None and entry[0] == "page" and (entry[1], part) in state["signs"]:
            name, part = state["signs"][entry[1], part], None
        else:
            return places
    return None


def plain_lead(state, name, part):
    places = plain_way(state, name, part)
    signs = len(places) - 1
    name, part = places[-1]
    entry = state["entries"].get(name)
    if entry is None:
        return "nothing", name, part, signs
    if entry[0] == "page" and part is not None and part not in parts_of(state["pages"][entry[1]][-1][2]):
        part = ""
    return entry[0], entry[1], part, signs


def plain_shows(state, text):
    return [
        ("name", piece[1], plain_lead(state, piece[2], piece[3])) if piece[0] == "name" else piece
        for piece in pieces(text)
    ]


def plain_pairs(text):
    return [(name, part or None) for name, part in named(text)]


class PlainSite:
    def __init__(self):
        self.log = [{"entries": {}, "signs": {}, "pages": []}]
        self.done = []

    @property
    def state(self):
        return self.log[-1]

    def do(self, deed):
        """Does a deed of ten; tells its refusal as helper.refusal does, or None."""
        new = copy.deepcopy(self.state)
        try:
            clean = PLAIN_DEEDS[deed[0]](self, new, *deed[1:])
            if self.is_round(new):
                raise Refused("Ring")
        except Refused as refused:
            return refused.word, refused.value
        except NoName:
            return "NoName", None
        self.log.append(new)
        self.done.append(clean)
        return None

    def is_round(self, state):
        names = set(state["entries"]) | {entry[1] for entry in state["entries"].values() if entry[0] == "sign"}
        names |= set(state["signs"].values())
        parts = {part for number, part in state["signs"]} | {"never_asked", None}
        parts |= {entry[2] for entry in state["entries"].values() if entry[0] == "sign"}
        return any(plain_way(state, name, part) is None for name in names for part in parts)

    # What is asked.

    def stands_now(self, number):
        return self.state["entries"].get(self.state["pages"][number][-1][1]) == ("page", number)

    def standing(self):
        return [number for number in range(len(self.state["pages"])) if self.stands_now(number)]

    def namers(self, name):
        found = set()
        for number, stands in enumerate(self.state["pages"]):
            for at, called, text in stands:
                for one, part in plain_pairs(text):
                    if name in [place[0] for place in plain_way(self.state, one, part)]:
                        found.add(number)
        return sorted(found)

    def bar(self, name):
        entry = self.state["entries"].get(name)
        if entry is None or entry[0] == "page":
            return None
        return min(self.namers(name), default=None)

    def backs(self, number):
        return [
            one for one in self.standing()
            if any(plain_lead(self.state, *pair)[:2] == ("page", number)
                   for pair in plain_pairs(self.state["pages"][one][-1][2]))
        ]

    def loose(self):
        found = {}
        for number in self.standing():
            for name, part in plain_pairs(self.state["pages"][number][-1][2]):
                if plain_lead(self.state, name, part)[0] != "page":
                    found[name, part or ""] = found.get((name, part or ""), []) + [number]
        return [(*key, found[key]) for key in sorted(found)]

    def tree(self):
        names = {self.state["pages"][number][-1][1]: number for number in self.standing()}
        nodes = sorted({tuple(name.split("/")[:many]) for name in names for many in range(1, name.count("/") + 2)})
        return [(len(node) - 1, node[-1], names.get("/".join(node))) for node in nodes]

    def story(self, name):
        entries = [state["entries"].get(name) for state in self.log]
        return [(at, entries[at]) for at in range(1, len(entries)) if entries[at] != entries[at - 1]]

    def told_now(self, names):
        pages = self.state["pages"]
        numbers = range(len(pages))
        ends = {name: plain_lead(self.state, name, None)[:2] for name in self.state["entries"]}
        backs = [self.backs(number) if self.stands_now(number) else None for number in numbers]
        return {
            "time": len(self.log) - 1, "made": len(pages), "deeds": self.done, "standing": self.standing(),
            "unnamed": [number for number in self.standing() if set(backs[number]) <= {number}],
            "loose": self.loose(), "tree": self.tree(),
            "stands": [[stand[0] for stand in stands] for stands in pages],
            "stands_now": [self.stands_now(number) for number in numbers],
            "called": [stands[-1][1] for stands in pages], "text": [stands[-1][2] for stands in pages],
            "names_to": [sorted(name for name in ends if ends[name] == ("page", number)) for number in numbers],
            "backs": backs, "namers": [self.namers(name) for name in names],
            "bar": [self.bar(name) for name in names], "story": [self.story(name) for name in names],
        }

    def told_at(self, names, at):
        state = self.log[at]
        many = len(self.state["pages"])
        stands = [state["pages"][number][-1][1:] if number < len(state["pages"]) else None for number in range(many)]
        return {
            "entry": [state["entries"].get(name) for name in names],
            "part_sign": [state["signs"].get((number, part)) for number in range(many) for part in PARTS],
            "lead": [plain_lead(state, name, part) for name in names for part in (None, *PARTS)],
            "way": [[place[0] for place in plain_way(state, name, part)] for name in names for part in (None, *PARTS)],
            "stand": stands,
            "shows": [stand and plain_shows(state, stand[1]) for stand in stands],
        }

    def seen_now(self, at):
        pages = self.log[at]["pages"]
        return [
            plain_shows(self.state, pages[number][-1][2]) if number < len(pages) else None
            for number in range(len(self.state["pages"]))
        ]

    # What deeds need.

    def page_at(self, name):
        entry = self.state["entries"].get(name)
        if entry is None:
            raise Refused("NoPage")
        if entry[0] != "page":
            raise Refused({"sign": "Sign", "away": "Away"}[entry[0]])
        return entry[1]

    def need_place(self, name):
        if (self.state["entries"].get(name) or ("",))[0] == "page":
            raise Refused("Taken")
        if self.bar(name) is not None:
            raise Refused("Barred", self.bar(name))

    def need_place_for(self, number, new):
        name = new
        while self.state["entries"].get(name, ("", "", ""))[::2] == ("sign", None):
            name = self.state["entries"][name][1]
        if name == new or self.state["entries"].get(name) != ("page", number):
            self.need_place(new)

    def text_of(self, number):
        return self.state["pages"][number][-1][2]

    def give(self, new, number, name, text):
        stand = (len(self.log), name, text)
        if number == len(new["pages"]):
            new["pages"].append([stand])
        elif new["pages"][number][-1][1:] != stand[1:]:
            new["pages"][number].append(stand)
        for part in parts_of(text):
            new["signs"].pop((number, part), None)

    # The ten deeds.

    def write(self, new, name, text):
        name = name_of(name)
        if not isinstance(text, str) or len(text) > 400:
            raise Refused("NoText")
        entry = self.state["entries"].get(name, ("",))
        if entry[0] == "page":
            if self.text_of(entry[1]) == text:
                raise Refused("Same")
            self.give(new, entry[1], name, text)
        else:
            self.need_place(name)
            new["entries"][name] = ("page", len(new["pages"]))
            self.give(new, len(new["pages"]), name, text)
        return "write", name, text

    def rename(self, new, name, to):
        name, to = name_of(name), name_of(to)
        number = self.page_at(name)
        if name == to:
            raise Refused("Same")
        self.need_place_for(number, to)
        self.move(new, number, name, to)
        return "rename", name, to

    def move(self, new, number, name, to):
        new["entries"][name] = ("sign", to, None)
        new["entries"][to] = ("page", number)
        self.give(new, number, to, self.text_of(number))

    def part(self, new, name, part, to):
        name, part, to = name_of(name), part_of(part), name_of(to)
        number = self.page_at(name)
        if part not in parts_of(self.text_of(number)):
            raise Refused("NoPart")
        self.need_place(to)
        rest, section = cut(self.text_of(number), part)
        new["signs"][number, part] = to
        self.give(new, number, name, rest)
        new["entries"][to] = ("page", len(new["pages"]))
        self.give(new, len(new["pages"]), to, section)
        return "part", name, part, to

    def join(self, new, name, other):
        name, other = name_of(name), name_of(other)
        first, into = self.page_at(name), self.page_at(other)
        if first == into:
            raise Refused("Same")
        signs = [{part for number, part in self.state["signs"] if number == one} for one in (first, into)]
        heads = [set(parts_of(self.text_of(one))) for one in (first, into)]
        if signs[0] & (signs[1] | heads[1]) or signs[1] & heads[0]:
            raise Refused("Clash")
        text = self.text_of(into) + "\n" + self.text_of(first)
        if len(text) > 2000:
            raise Refused("TooLong")
        self.give(new, into, other, text)
        for part in signs[0]:
            new["signs"][into, part] = new["signs"][first, part]
        new["entries"][name] = ("sign", other, None)
        return "join", name, other

    def away(self, new, name):
        name = name_of(name)
        new["entries"][name] = ("away", self.page_at(name))
        return "away", name

    def back(self, new, name):
        name = name_of(name)
        entry = self.state["entries"].get(name, ("",))
        if entry[0] != "away":
            raise Refused("NotAway")
        new["entries"][name] = ("page", entry[1])
        return "back", name

    def sign(self, new, name, to):
        name = name_of(name)
        target, mark, part = to.partition("#")
        target, part = name_of(target), part_of(part) if mark else None
        if self.state["entries"].get(name, ("",))[0] == "page":
            raise Refused("Taken")
        if self.state["entries"].get(name) == ("sign", target, part):
            raise Refused("Same")
        self.need_place(name)
        new["entries"][name] = ("sign", target, part)
        return "sign", name, target + mark + (part or "")

    def family(self, new, stem, to):
        stem, to = name_of(stem), name_of(to)
        if is_of(stem, to) or is_of(to, stem):
            raise Refused("NoRule")
        names = {self.state["pages"][number][-1][1]: number for number in self.standing()}
        own = sorted(name for name in names if is_of(name, stem))
        if not own:
            raise Refused("NoPage")
        for name in own:
            self.need_place_for(names[name], moved(name, stem, to))
        for name in own:
            self.move(new, names[name], name, moved(name, stem, to))
        return "family", stem, to

    def straight(self, new):
        for name, entry in self.state["entries"].items():
            parts = []
            while entry is not None and entry[0] == "sign":
                end = entry[1]
                parts += [entry[2]] if entry[2] is not None else []
                new["entries"][name] = ("sign", end, parts[0] if parts else None)
                entry = self.state["entries"].get(end)
        if new["entries"] == self.state["entries"]:
            raise Refused("Same")
        return ("straight",)

    def renew(self, new, name):
        name = name_of(name)
        number = self.page_at(name)
        told, anew = "", False
        for written, piece in written_pieces(self.text_of(number)):
            lead = plain_lead(self.state, piece[2], piece[3]) if piece[0] == "name" else ("",)
            if lead[0] == "page" and lead[3] > 0:
                asked = plain_way(self.state, piece[2], piece[3])[-1][1]
                written = "[[" + self.state["pages"][lead[1]][-1][1]
                written += ("#" + (lead[2] or asked) if lead[2] is not None else "") + "|" + piece[1] + "]]"
                anew = True
            told += written
        if not anew:
            raise Refused("Same")
        if len(told) > 2000:
            raise Refused("TooLong")
        self.give(new, number, name, told)
        return "renew", name


PLAIN_DEEDS = {word: getattr(PlainSite, word) for word in WORDS}


def written_pieces(text):
    """The pieces of a text, each behind the signs that it is written by."""
    told = []
    for piece in pieces(text):
        if piece[0] == "text":
            told.append((piece[1], piece))
        else:
            # A borne name is written up to the first closing brackets.
            told.append((text[:text.index("]]") + 2], piece))
        assert text.startswith(told[-1][0])
        text = text[len(told[-1][0]):]
    return told


# Deeds that are drawn.

def drawn_text(draw):
    rows = []
    for many in range(draw.randrange(5)):
        if draw.randrange(5) < 2:
            rows.append(f"= {draw.choice(PARTS)} =")
        else:
            rows.append("".join(drawn_piece(draw) for many in range(draw.randrange(3))))
    return "\n".join(rows)


def drawn_piece(draw):
    kind = draw.randrange(8)
    # A few names are borne far more often than others, so that others can be used anew.
    name, part = draw.choice(NAMES[:draw.choice((5, 5, 15))]), draw.choice(PARTS)
    if kind < 3:
        return f"[[{name}]]"
    if kind < 5:
        return f"[[{name}#{part}]]"
    if kind == 5:
        return f"[[{name.upper()}|see]]"
    if kind == 6:
        return f"[[ {name}#{part}|it]]"
    return draw.choice(("plain", "[[", "]]", "= p", "{a: b}", "\\"))


def drawn_name(draw, site):
    """A name, mostly of a page that stands."""
    standing = site.standing()
    if standing and draw.randrange(4):
        return site.called(draw.choice(standing))
    return draw.choice(NAMES)


def drawn_part(draw, site):
    """A name and a part, mostly of a page that stands and has the part."""
    having = [number for number in site.standing() if parts_of(site.text(number))]
    if having and draw.randrange(6):
        number = draw.choice(having)
        return site.called(number), draw.choice(parts_of(site.text(number)))
    return draw.choice(NAMES), draw.choice(PARTS)


def drawn_renaming(draw, site):
    """A name and another one, now and then one that led to the page already."""
    name = drawn_name(draw, site)
    if site.entry(name) is not None and site.entry(name)[0] == "page" and draw.randrange(3) == 0:
        return name, draw.choice(site.names_to(site.entry(name)[1]))
    return name, draw.choice(NAMES)


def drawn_deed(draw, site):
    word = draw.choice(WORDS + ("write", "part", "part", "join"))
    if word == "write":
        return word, draw.choice(NAMES), drawn_text(draw)
    if word == "part":
        return word, *drawn_part(draw, site), draw.choice(NAMES)
    if word == "sign":
        return word, draw.choice(NAMES), draw.choice(NAMES) + draw.choice(("", "", "#" + draw.choice(PARTS)))
    if word == "rename":
        return word, *drawn_renaming(draw, site)
    if word == "join":
        return word, drawn_name(draw, site), draw.choice(NAMES)
    if word == "family":
        return word, draw.choice("abcde"), draw.choice("abcdefgh")
    if word == "straight":
        return (word,)
    return word, draw.choice(NAMES) if word == "back" else drawn_name(draw, site)


def drawn_rows(draw, many, tries=4000):
    """Draws deeds: tells each with the site and the plain one behind it, and its refusal or None."""
    site, plain = Site(), PlainSite()
    while site.time() < many and tries:
        tries -= 1
        deed = drawn_deed(draw, site)
        if site.made() >= 30 and deed[0] in ("write", "part"):
            continue
        told = refusal(done, site, deed)
        assert told == plain.do(deed), (site.deeds(), deed, told)
        yield site, plain, deed, told


def drawn_site(draw, many):
    """A site and the plain one behind as many drawn deeds."""
    for site, plain, deed, told in drawn_rows(draw, many):
        pass
    return site, plain
