"""Points 27 to 30: back lists, namers and bars."""

import random
import unittest

from helper import SiteCase, drawn_rows, known_names, site_of
from signsleft.errors import NoName, NoStand
from signsleft.sites import Site
from signsleft.texts import named


class BacksTest(SiteCase):
    def test_plain(self):
        site = site_of("write a: [[b]] [[c]]", "write b: [[c]] [[C|again]]", "write c: ")
        self.assertEqual([site.backs(number) for number in range(3)], [[], [0], [0, 1]])
        self.assertEqual(site.unnamed(), [0])

    def test_a_page_that_names_itself(self):
        site = site_of("write a: [[a]]", "write b: [[b]] [[c]]", "write c: [[b]] [[c]]")
        self.assertEqual([site.backs(number) for number in range(3)], [[0], [1, 2], [1, 2]])
        self.assertEqual(site.unnamed(), [0])

    def test_by_signs_and_parts(self):
        site = site_of("write a: [[s]] [[b#p]] [[t]]", "write b: = p =\\nx", "sign s > b", "sign t > b#p")
        self.assertEqual((site.backs(1), site.unnamed()), ([0], [0]))
        site.part("b", "p", "c")
        self.assertEqual((site.backs(1), site.backs(2), site.unnamed()), ([0], [0], [0]))
        site.write("a", "[[b#p]]")
        self.assertEqual((site.backs(1), site.backs(2), site.unnamed()), ([], [0], [0, 1]))

    def test_a_part_that_is_not_there_leads_to_the_page(self):
        site = site_of("write a: [[b#q]]", "write b: ")
        self.assertEqual(site.backs(1), [0])

    def test_only_the_text_now(self):
        site = site_of("write a: [[b]]", "write b: ", "write a: ")
        self.assertEqual((site.backs(1), site.unnamed()), ([], [0, 1]))

    def test_pages_that_do_not_stand(self):
        site = site_of("write a: [[b]]", "write b: [[a]]", "away a")
        self.refuse(NoStand, site.backs, 0)
        self.assertEqual((site.backs(1), site.unnamed()), ([], [1]))
        site.bring_back("a")
        self.assertEqual((site.backs(0), site.backs(1), site.unnamed()), ([1], [0], []))

    def test_joined_and_lost(self):
        site = site_of("write a: [[b]]", "write b: [[a]]", "join a > b")
        self.refuse(NoStand, site.backs, 0)
        self.assertEqual((site.backs(1), site.unnamed()), ([1], [1]))
        site = site_of("write c: ", "away c", "write c: [[c]]", "write d: [[c]]")
        self.refuse(NoStand, site.backs, 0)
        self.assertEqual((site.backs(1), site.unnamed()), ([1, 2], [2]))

    def test_of_an_empty_site(self):
        self.assertEqual((Site().unnamed(), Site().loose(), Site().standing()), ([], [], []))


class LooseTest(SiteCase):
    def test_names_and_parts(self):
        site = site_of("write a: [[z]] [[y#q]] [[y#p]] [[y]] [[b]] [[a#q]]", "write b: [[Y]] [[z#P]] [[z]]")
        self.assertEqual(site.loose(), [("y", "", [0, 1]), ("y", "p", [0]), ("y", "q", [0]), ("z", "", [0, 1]),
                                        ("z", "p", [1])])

    def test_by_signs(self):
        site = site_of("write a: [[s]] [[t]]", "sign s > z#p", "sign t > b", "write b: [[s]]", "away b")
        self.assertEqual(site.loose(), [("s", "", [0]), ("t", "", [0])])
        site.bring_back("b")
        self.assertEqual(site.loose(), [("s", "", [0, 1])])
        site.write("z", "")
        self.assertEqual(site.loose(), [])

    def test_by_the_sign_of_a_part(self):
        site = site_of("write a: = p =\\n", "part a # p > b", "write c: [[a#p]] [[a#r]]", "away b")
        self.assertEqual(site.loose(), [("a", "p", [2])])

    def test_pages_that_do_not_stand_bear_none(self):
        site = site_of("write a: [[z]]", "write b: [[z]]", "write c: ", "join b > c", "away a")
        self.assertEqual(site.loose(), [("z", "", [2])])
        site.write("c", "")
        self.assertEqual(site.loose(), [])


class NamersTest(SiteCase):
    def test_by_any_stand_of_any_page(self):
        site = site_of("write a: [[z]]", "write a: ", "write b: [[z]]", "away b", "write c: [[z]]", "write d: ",
                       "join c > d",
                       "write d: ", "write e: [[z]]", "away e", "write e: ")
        # Of c by its own text, of d by the text joined, of e (lost) by its only one.
        self.assertEqual(site.namers("z"), [0, 1, 2, 3, 4])
        self.assertEqual(site.namers("Z_"), [0, 1, 2, 3, 4])

    def test_of_what_no_text_bears(self):
        site = site_of("write a: [[b]]")
        self.assertEqual((site.namers("a"), site.namers("b"), site.namers("c")), ([], [0], []))

    def test_with_any_part(self):
        site = site_of("write a: [[z#p]]", "write b: [[z#q|w]]", "write c: [[z]]")
        self.assertEqual(site.namers("z"), [0, 1, 2])

    def test_by_a_way_that_only_comes_through_it(self):
        site = site_of("write a: [[s]]", "sign s > t", "sign t > u#p", "sign u > v")
        for name in "stuv":
            self.assertEqual(site.namers(name), [0])
        self.assertEqual(site.namers("a"), [])

    def test_by_the_sign_of_a_part_of_the_part_that_is_borne(self):
        site = site_of("write a: = p =\\nx", "part a # p > b", "write c: [[a]]", "write d: [[a#p]]", "write e: [[a#q]]")
        self.assertEqual((site.namers("a"), site.namers("b")), ([2, 3, 4], [3]))
        site.write("a", "= p =")
        self.assertEqual((site.namers("a"), site.namers("b")), ([2, 3, 4], []))

    def test_as_it_leads_now(self):
        site = site_of("sign s > b", "write a: [[s]]", "write b: ", "sign c > b", "write b: [[d]]")
        self.assertEqual((site.namers("b"), site.namers("c"), site.namers("d")), ([0], [], [1]))
        site.rename("b", "c")
        self.assertEqual((site.namers("b"), site.namers("c")), ([0], [0]))
        site.straighten()
        self.assertEqual((site.namers("b"), site.namers("c"), site.namers("s")), ([], [0], [0]))

    def test_a_page_that_names_itself(self):
        self.assertEqual(site_of("write a: [[a]]").namers("a"), [0])

    def test_no_name(self):
        site = site_of("write a: ")
        for name in ("", "a#b", None, 3):
            for call in (site.namers, site.bar, site.story):
                self.refuse(NoName, call, name)


class BarTest(SiteCase):
    def test_none_of_a_free_name_and_of_a_pages(self):
        site = site_of("write a: [[a]] [[b]]")
        self.assertIsNone(site.bar("a"))
        self.assertIsNone(site.bar("b"))
        self.assertIsNone(site.bar("c"))

    def test_a_sign_and_a_page_away(self):
        site = site_of("write a: ", "sign s > a", "write w: ", "away w")
        self.assertIsNone(site.bar("s"))
        self.assertIsNone(site.bar("w"))
        site.write("b", "[[s]] [[W#p]]")
        self.assertEqual((site.bar("s"), site.bar(" S"), site.bar("w")), (2, 2, 2))

    def test_the_least_page(self):
        site = site_of("write a: ", "write b: [[s]]", "write c: [[s]]", "sign s > z", "write b: ")
        self.assertEqual((site.bar("s"), site.namers("s")), (1, [1, 2]))
        site.take_away("b")
        self.assertEqual(site.bar("s"), 1)
        site.write("a", "[[t]]")
        site.put_sign("t", "s")
        self.assertEqual(site.bar("s"), 0)

    def test_a_page_away_bars_its_own_name(self):
        self.assertEqual(site_of("write a: [[a]]", "away a").bar("a"), 0)

    def test_a_name_straightened_out_of_the_way_is_barred_no_more(self):
        site = site_of("write a: [[s]]", "write b: x", "rename b > c", "sign s > b")
        self.assertEqual(site.bar("b"), 0)
        self.refuse_barred(0, site, "write b: new")
        site.straighten()
        self.assertIsNone(site.bar("b"))
        site.write("b", "new")
        self.assertEqual(site.shows_now(0), [("name", "s", ("page", 1, None, 1))])


def read_plainly(site):
    """Who names whom, told by reading all pages one name behind the other and asking where each leads."""
    backs = {number: [] for number in site.standing()}
    loose = {}
    for number in site.standing():
        for name, part in named(site.text(number)):
            kind, end, left, signs = site.lead(name, part or None)
            if kind != "page":
                loose.setdefault((name, part), []).append(number)
            elif number not in backs[end]:
                backs[end].append(number)
    return backs, [(*key, loose[key]) for key in sorted(loose)]


def namers_plainly(site, name):
    return [
        number for number in range(site.made())
        if any(name in site.way(one, part or None) for at in site.stands(number)
               for one, part in named(site.stand(number, at)[1]))
    ]


class ReadPlainlyTest(SiteCase):
    def test_drawn(self):
        for seed in range(12):
            for site, plain, deed, refused in drawn_rows(random.Random(seed), 60):
                if refused:
                    continue
                backs, loose = read_plainly(site)
                self.assertEqual({number: site.backs(number) for number in site.standing()}, backs)
                self.assertEqual(site.loose(), loose)
                self.assertEqual(site.unnamed(), [number for number in backs if not set(backs[number]) - {number}])
                for number in range(site.made()):
                    if number not in backs:
                        self.refuse(NoStand, site.backs, number)
            for name in known_names(site):
                namers = namers_plainly(site, name)
                self.assertEqual(site.namers(name), namers)
                barred = namers and site.entry(name) is not None and site.entry(name)[0] != "page"
                self.assertEqual(site.bar(name), namers[0] if barred else None)


if __name__ == "__main__":
    unittest.main()
