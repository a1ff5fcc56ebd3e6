"""Points 1 to 4: what holds over the whole program, over long rows of drawn deeds of all ten sorts."""

import random
import unittest

from helper import (
    NAMES, PARTS, WORDS, SiteCase, all_told, drawn_deed, drawn_rows, drawn_site, known_names, refusal, seen_now,
    site_of,
    told_at, told_now,
)
from signsleft.deeds import deed_row, done
from signsleft.desk import Desk
from signsleft.errors import SignError
from signsleft.judges import differ, judged, read_site, replay, written
from signsleft.names import is_of, moved
from signsleft.sites import Site
from signsleft.texts import named

ASKED_PARTS = (None, "never", *PARTS)


def spoil(told):
    """Changes a list that was told, and all lists within it."""
    if isinstance(told, (list, tuple)):
        for one in told:
            spoil(one)
    if isinstance(told, list):
        told.reverse()
        told.append("spoiled")


def ask_all(site):
    """The calls of all that tells a list."""
    calls = [site.unnamed, site.loose, site.standing, site.tree, site.deeds, lambda: judged(site, site.deeds()),
             lambda: judged(site, [("write", "free", ""), ("write", "free/x", "")]), lambda: differ(site, Site())]
    for number in range(site.made()):
        calls += [lambda number=number: site.stands(number), lambda number=number: site.names_to(number)]
        if site.stands_now(number):
            calls.append(lambda number=number: site.backs(number))
        for at in range(site.time() + 1):
            calls += [lambda number=number, at=at: site.shows(number, at),
                      lambda number=number, at=at: site.shows_now(number, at),
                      lambda number=number, at=at: site.stand(number, at)]
    for name in known_names(site):
        calls += [lambda name=name: site.namers(name), lambda name=name: site.story(name)]
        for at in range(site.time() + 1):
            calls += [lambda name=name, at=at: site.way(name, "p", at), lambda name=name,
                      at=at: site.lead(name, "p", at)]
    return calls


class HandedInTest(SiteCase):
    def test_lists_told_are_the_askers_own(self):
        for seed in (1, 2):
            site = drawn_site(random.Random(seed), 30)[0]
            before = all_told(site)
            for call in ask_all(site):
                first = repr(call())
                spoil(call())
                self.assertEqual(repr(call()), first)
            self.assertEqual(all_told(site), before)
            # Deeds done behind that come to what they come to elsewhere.
            other = replay(site.deeds())
            for one in (site, other):
                one.write("h/h/h", "[[a]]")
            self.assertEqual(all_told(site), all_told(other))

    def test_rows_of_deeds_are_neither_changed_nor_kept(self):
        deeds = drawn_site(random.Random(3), 30)[0].deeds()
        kept = list(deeds)
        site = replay(deeds)
        told = judged(Site(), deeds)
        self.assertEqual(deeds, kept)
        before = all_told(site)
        deeds.reverse()
        del deeds[5:]
        self.assertEqual(all_told(site), before)
        self.assertEqual(site.deeds(), kept)
        self.assertEqual(judged(Site(), kept), told)

    def test_a_site_as_it_was_is_not_changed_by_the_first_ones_lists(self):
        site = site_of("write a: [[b]]", "write b: ")
        elder = site.was(1)
        spoil(site.deeds())
        spoil(elder.deeds())
        spoil(elder.shows(0))
        self.assertEqual((site.deeds(), elder.deeds()), ([("write", "a", "[[b]]"), ("write", "b", "")],
                                                         [("write", "a", "[[b]]")]))

    def test_pieces_of_a_stand_are_not_shared(self):
        site = site_of("write a: x[[b]]y")
        spoil(site.shows(0))
        spoil(site.shows_now(0, 1))
        self.assertEqual(site.shows(0), [("text", "x"), ("name", "b", ("nothing", "b", None, 0)), ("text", "y")])

    def test_asked_again_the_same_is_told(self):
        site = drawn_site(random.Random(4), 40)[0]
        self.assertEqual(all_told(site), all_told(site))

    def test_what_is_refused_changes_nothing(self):
        refused = {}
        for seed in range(6):
            draw = random.Random(seed)
            site = drawn_site(draw, 40)[0]
            before = all_told(site)
            for turn in range(60):
                deed = drawn_deed(draw, site)
                if judged(site, [deed])[0] == "stops":
                    told = refusal(done, site, deed)
                    refused.setdefault(deed[0], set()).add(told[0])
                    if turn % 5 == 0:
                        self.assertEqual(all_told(site), before, deed)
            self.assertEqual(all_told(site), before)
        self.assertEqual(sorted(refused), sorted(WORDS))
        self.assertGreater(sum(len(kinds) for kinds in refused.values()), 25)

    def test_refusals_are_of_the_package(self):
        site = site_of("write a: ")
        for deed in (None, (), [], ("write", None, None), ("away", "z"), ("straight",)):
            with self.assertRaises(SignError) as caught:
                done(site, deed)
            self.assertEqual(type(caught.exception).__bases__, (SignError,))


class PlainSiteTest(SiteCase):
    def test_all_is_told_as_the_plain_site_tells_it(self):
        done_words, refused = {}, {}
        for seed in range(30):
            draw = random.Random(1000 + seed)
            for site, plain, deed, told in drawn_rows(draw, 50):
                if told is None:
                    done_words[deed[0]] = done_words.get(deed[0], 0) + 1
                    if site.time() % 10 == 0:
                        self.assert_told(site, plain)
                else:
                    refused[deed[0], told[0]] = True
        self.assertEqual(sorted(done_words), sorted(WORDS))
        self.assertGreater(min(done_words.values()), 20)
        self.assertGreater(len(refused), 35)

    def assert_told(self, site, plain):
        names = known_names(site)
        self.assertEqual(told_now(site, names), plain.told_now(names))
        for at in range(site.time() + 1):
            self.assertEqual(told_at(site, names, at), plain.told_at(names, at))
            self.assertEqual(seen_now(site, at), plain.seen_now(at))

    def test_thirty_pages_and_a_hundred_and_fifty_deeds(self):
        for seed in (1, 2):
            draw = random.Random(seed)
            rows = list_of_rows(draw)
            desk = Desk()
            for row in rows:
                self.assertEqual(desk.say(row), "ok")
            site = desk.site
            self.assertEqual((site.made(), site.time()), (30, 150))
            self.assertTrue(read_site(written(site)).alike(site))
            self.assertEqual(judged(Site(), site.deeds()), ("goes", list(range(30))))
            for at in range(151):
                for number in range(30):
                    self.assertEqual(site.shows(number, at) is None, site.stands(number)[0] > at)
            self.assertEqual(site.was(75).deeds(), site.deeds()[:75])
            # Somewhat beyond the bounds nothing is refused for that.
            for at in range(5):
                site.write(f"more{at}", "")
            self.assertEqual((site.made(), site.time()), (35, 155))


def list_of_rows(draw):
    """Rows of 150 deeds that make thirty pages, with texts of 400 signs, and join two of them up to 2000."""
    rows = []
    for number in range(30):
        bears = "".join(f"[[n{draw.randrange(30)}#p]]" for at in range(draw.randrange(30)))
        rows.append(f"write n{number}: " + text_of("[[n0]]" + bears, 400))
    rows += ["rename n0 > m0"] + [f"rename m{at} > m{at + 1}" for at in range(99)]
    rows += [f"write n{number}: " + text_of("[[n0]]", 399) for number in range(1, 5)]
    rows += [f"join n{number} > m99" for number in range(1, 5)]
    rows += ["straight", "family n5 > o/p", "renew o/p"]
    rows += [f"sign s{at} > n0#p" for at in range(150 - len(rows))]
    return rows


def text_of(bears, signs):
    return bears + "x" * (signs - len(bears))


class ShownTest(SiteCase):
    def test_seen_then_is_the_same_for_ever(self):
        for seed in range(6):
            shown = {}
            for site, plain, deed, refused in drawn_rows(random.Random(seed), 60):
                if refused is not None:
                    continue
                for number in range(site.made()):
                    shown[number, site.time()] = site.shows(number)
                for number, at in shown:
                    self.assertEqual(site.shows(number, at), shown[number, at])

    def test_seen_now_each_name_leads_to_where_it_leads_now(self):
        for seed in range(10):
            site = drawn_site(random.Random(seed), 60)[0]
            for number in range(site.made()):
                for at in site.stands(number):
                    leads = [piece[2] for piece in site.shows_now(number, at) if piece[0] == "name"]
                    self.assertEqual(sorted(map(repr, set(leads))), sorted({
                        repr(site.lead(name, part or None)) for name, part in named(site.stand(number, at)[1])}))


def ways_borne(site):
    """By number: of each name and part that some stand of the page bears, the names that its way comes to."""
    return {
        number: {(name, part): site.way(name, part or None)
                 for at in site.stands(number) for name, part in named(site.stand(number, at)[1])}
        for number in range(site.made())
    }


def new_names(site, deed):
    """The names at which a deed needs a place, with the names of what it moves there, or None."""
    if deed[0] == "write":
        return [(deed[1], None)]
    if deed[0] == "part":
        return [(deed[3], None)]
    if deed[0] == "sign":
        return [(deed[1], None)]
    if deed[0] == "rename":
        return [(deed[2], deed[1])]
    if deed[0] == "family" and not is_of(*deed[1:]) and not is_of(deed[2], deed[1]):
        own = [site.called(number) for number in site.standing() if is_of(site.called(number), deed[1])]
        return [(moved(name, *deed[1:]), name) for name in sorted(own)]
    return []


def is_own(site, new, name):
    """Whether new leads to the page at a name by signs without parts alone."""
    while site.entry(new) is not None and site.entry(new)[0] == "sign" and site.entry(new)[2] is None:
        new = site.entry(new)[1]
    return new == name


class AnewTest(SiteCase):
    def test_used_anew_just_where_nothing_leads_by_it(self):
        counted = {"anew": 0, "barred": 0, "own": 0}
        for seed in range(40):
            site = Site()
            draw = random.Random(seed)
            for turn in range(150):
                before = site.was(None)
                deed = drawn_deed(draw, site)
                refused = refusal(done, site, deed)
                self.look_at(before, site, deed, refused, counted)
        self.assertGreater(min(counted.values()), 8, counted)

    def look_at(self, before, site, deed, refused, counted):
        ways = ways_borne(before)
        bars = []
        for new, name in new_names(before, deed):
            entry = before.entry(new)
            if entry is None or entry[0] == "page":
                continue
            namers = [number for number in ways if any(new in way for way in ways[number].values())]
            if name is not None and is_own(before, new, name):
                counted["own"] += bool(namers) and refused is None
            elif namers:
                bars.append(min(namers))
            elif refused is None:
                counted["anew"] += 1
        if refused is None:
            self.assertEqual(bars, [], deed)
            if deed[0] in ("write",
                           "sign") and before.entry(deed[1]) is not None and before.entry(deed[1])[0] != "page":
                # So none comes to lead elsewhere: nothing that any stand shows is another thing now.
                for number in ways:
                    for at in before.stands(number):
                        self.assertEqual(site.shows_now(number, at), before.shows_now(number, at), deed)
        elif refused[0] == "Barred":
            counted["barred"] += 1
            self.assertEqual(refused[1], bars[0], deed)


def all_leads(site, names):
    return {(name, part): site.lead(name, part) for name in names for part in ASKED_PARTS}


class LeadsTest(SiteCase):
    def test_where_each_name_leads_behind_each_deed(self):
        counted = {}
        for seed in range(40):
            site = Site()
            draw = random.Random(500 + seed)
            while site.time() < 40:
                before = site.was(None)
                deed = drawn_deed(draw, site)
                if refusal(done, site, deed) is not None:
                    continue
                names = sorted(set(NAMES) | set(site.names_known()))
                for (name, part), lead in all_leads(before, names).items():
                    way = before.way(name, part)
                    behind = site.lead(name, part)
                    self.assertIn(behind[0], ("page", "away", "nothing"))
                    self.assertLess(behind[3], 200)
                    expected = self.expected(before, site, deed, lead, way)
                    if expected is not None:
                        counted[deed[0]] = counted.get(deed[0], 0) + 1
                        self.assertEqual(behind[:3], expected, (before.deeds(), deed, name, part))
        self.assertEqual(sorted(counted), ["family", "join", "part", "rename", "renew", "straight"])
        self.assertGreater(min(counted.values()), 500, counted)

    def expected(self, before, site, deed, lead, way):
        """Where a name leads behind a deed; None where that is not told by what LEADS says."""
        if deed[0] in ("straight", "renew"):
            return lead[:3]
        if deed[0] not in ("rename", "family", "part", "join") or lead[0] != "page":
            return None
        for new, name in new_names(before, deed):
            # What came to the name that is used anew comes to what is there now.
            if new in way and (name is None or not is_own(before, new, name)):
                return None
        if deed[0] == "part" and lead[1:3] == (before.entry(deed[1])[1], deed[2]):
            if deed[2] not in [part for part in PARTS if site.lead(deed[1], part)[2] == part]:
                return "page", site.made() - 1, None
        if deed[0] == "join":
            first, into = before.entry(deed[1])[1], before.entry(deed[2])[1]
            if lead[1] in (first, into) and lead[2] == "":
                # The other page may have the part, or a sign of it.
                return None
            if lead[1] == first:
                return "page", into, lead[2]
        return lead[:3]

    def test_the_part_of_the_page_joined_into_is_the_first(self):
        site = site_of("write a: = p =\\n1", "write b: = p =\\n2", "write c: [[a#p]] [[b#p]]", "join a > b",
                       "part b # p > d")
        self.assertEqual((site.text(3), site.lead("a", "p")), ("2", ("page", 1, "p", 1)))
        site.part("b", "p", "e")
        self.assertEqual((site.text(4), site.lead("a", "p")), ("1", ("page", 4, None, 2)))


def names_done_to(before, site, deed):
    if deed[0] == "straight":
        return {name for one in (before, site) for name in one.names_known() if one.entry(name)[0] == "sign"}
    if deed[0] == "family":
        return {name for pair in new_names(before, deed) for name in pair}
    names = {"write": deed[1:2], "part": (deed[1], deed[-1]), "sign": deed[1:2]}.get(deed[0], deed[1:])
    return set(names)


class ElsewhereTest(SiteCase):
    def test_what_is_shown_of_other_pages(self):
        changed = 0
        for seed in range(40):
            site = Site()
            draw = random.Random(900 + seed)
            while site.time() < 40:
                before = site.was(None)
                deed = drawn_deed(draw, site)
                if refusal(done, site, deed) is not None:
                    continue
                names = names_done_to(before, site, deed)
                done_to = {before.entry(name)[1] for name in names
                           if before.entry(name) is not None and before.entry(name)[0] != "sign"}
                for number in range(before.made()):
                    if site.shows_now(number) == before.shows_now(number) or number in done_to:
                        continue
                    changed += 1
                    ways = [one.way(name, part or None) for one in (before, site) for name,
                            part in named(before.text(number))]
                    self.assertTrue(any(names & set(way) for way in ways), (before.deeds(), deed, number))
        self.assertGreater(changed, 300)


class AgainTest(SiteCase):
    def test_away_and_back_at_once(self):
        for seed in range(12):
            site = drawn_site(random.Random(seed), 40)[0]
            names = known_names(site)
            for number in site.standing():
                later = site.was(None)
                name = site.called(number)
                later.take_away(name)
                later.bring_back(name)
                self.assertEqual(later.time(), site.time() + 2)
                self.assertEqual(later.deeds(), site.deeds() + [("away", name), ("back", name)])
                self.assertEqual(later.story(name), site.story(name) + [
                    (site.time() + 1, ("away", number)), (site.time() + 2, ("page", number))])
                told, before = told_now(later, names), told_now(site, names)
                for left_out in ("time", "deeds"):
                    del told[left_out], before[left_out]
                for one, of in ((told, later), (before, site)):
                    one["story"] = [of.story(other) for other in names if other != name]
                self.assertEqual(told, before)
                self.assertEqual(told_at(later, names, None), told_at(site, names, None))
                for at in range(site.time() + 1):
                    self.assertEqual(seen_now(later, at), seen_now(site, at))


def without_times(site):
    """All that a site tells of the present, but for the times and the deeds."""
    names = known_names(site)
    told = told_now(site, names)
    del told["time"], told["deeds"]
    told["stands"] = [[site.stand(number, at) for at in site.stands(number)] for number in range(site.made())]
    told["story"] = [[entry for at, entry in site.story(name)] for name in names]
    return told, told_at(site, names, None)


class FamilyTest(SiteCase):
    def test_as_its_pages_renamed_one_by_one(self):
        held = 0
        for seed in range(120):
            draw = random.Random(seed)
            site = drawn_site(draw, draw.randrange(10, 40))[0]
            for turn in range(6):
                deed = ("family", draw.choice("abcdf"), draw.choice(("a", "b", "c", "d", "f", "k", "k/l")))
                moves = [(name, new) for new, name in new_names(site, deed)]
                family = site.was(None)
                if refusal(done, family, deed) is not None or len(moves) < 2:
                    continue
                for order in (moves, moves[::-1]):
                    single = site.was(None)
                    if all(refusal(single.rename, *move) is None for move in order):
                        held += 1
                        self.assertEqual(without_times(single), without_times(family))
        self.assertGreater(held, 60)


class JudgedTest(SiteCase):
    def test_rows_judged_against_rows_done(self):
        for seed in range(20):
            draw = random.Random(seed)
            site = drawn_site(draw, 20)[0]
            deeds = [drawn_deed(draw, site) for many in range(8)]
            for many in range(9):
                told = judged(site, deeds[:many])
                behind = site.was(None)
                refusals = [refusal(done, behind, deed) for deed in deeds[:many]]
                stops = [at for at, one in enumerate(refusals) if one is not None]
                if stops:
                    self.assertEqual(told, ("stops", stops[0], refusals[stops[0]][0].lower()))
                else:
                    self.assertEqual(told[0], "goes")
                    for number in range(site.made()):
                        same = all(getattr(site, ask)(number) == getattr(behind, ask)(number)
                                   for ask in ("called", "stands_now", "shows_now"))
                        self.assertEqual(number in told[1], not same)
                    self.assertEqual([number for number in told[1] if number >= site.made()],
                                     list(range(site.made(), behind.made())))
                    self.assertEqual(told[1], sorted(told[1]))


class RowsTest(SiteCase):
    def test_long_rows_read_and_replayed(self):
        site = drawn_site(random.Random(77), 150)[0]
        self.assertEqual(site.time(), 150)
        self.assertTrue(replay(site.deeds()).alike(site))
        self.assertEqual(written(site), "".join(deed_row(deed) + "\n" for deed in site.deeds()))


if __name__ == "__main__":
    unittest.main()
