"""Points 12 to 15: the table, and where names lead."""

import unittest

from helper import SiteCase, site_of
from signsleft.errors import Clash, NoName, NoTime, Ring, TooLong
from signsleft.sites import Site

NO_TIMES = (True, False, "0", "", b"0", [], [0], (0,), {}, -1, -2, 10 ** 30, object())
NO_NAMES = ("", " ", "a//b", "a#b", "a" * 25, "a/b/c/d/e", 0, True, ["a"], b"a")
NO_PARTS = ("", " ", "a/b", "a" * 13, 0, False, ["p"], b"p")


class EntryTest(SiteCase):
    def setUp(self):
        self.site = site_of("write A: x", "rename a > b", "away b", "back b", "sign d > e#P", "sign f > e")

    def test_of_a_new_site(self):
        site = Site()
        self.assertEqual((site.time(), site.made()), (0, 0))
        self.assertIsNone(site.entry("a"))
        self.assertIsNone(site.entry("a", 0))
        self.assertEqual((site.lead("a"), site.way("a")), (("nothing", "a", None, 0), ["a"]))

    def test_each_deed_makes_the_time_one_more(self):
        self.assertEqual(self.site.time(), 6)
        self.site.take_away("b")
        self.assertEqual(self.site.time(), 7)

    def test_at_each_time(self):
        stories = {
            "a": [None, ("page", 0)] + [("sign", "b", None)] * 5,
            "b": [None, None, ("page", 0), ("away", 0), ("page", 0), ("page", 0), ("page", 0)],
            "c": [None] * 7,
            "d": [None] * 5 + [("sign", "e", "p")] * 2,
            "e": [None] * 7,
            "f": [None] * 6 + [("sign", "e", None)],
        }
        for name, entries in stories.items():
            self.assertEqual([self.site.entry(name, at) for at in range(7)], entries)
            self.assertEqual(self.site.entry(name), entries[-1])
            self.assertEqual(self.site.entry(name, None), entries[-1])

    def test_names_in_any_way(self):
        self.assertEqual(self.site.entry("  B_"), ("page", 0))
        self.assertEqual(self.site.lead(" D ", "- P -"), ("nothing", "e", "p", 1))
        self.assertEqual(self.site.way("F-", "P"), ["f", "e"])

    def test_pages_are_numbered_as_they_were_made(self):
        site = site_of("write b: = p =", "write a: y", "part b # p > c", "rename b > z", "away a", "write d: ")
        self.assertEqual(site.made(), 4)
        self.assertEqual([site.called(number) for number in range(4)], ["z", "a", "c", "d"])
        self.assertEqual(site.entry("a"), ("away", 1))

    def test_times_that_are_none(self):
        asked = [
            (self.site.entry, "a"), (self.site.part_sign, 0, "p"), (self.site.lead, "a", None),
            (self.site.lead, "a", "p"),
            (self.site.way, "a", None), (self.site.stand, 0), (self.site.shows, 0), (self.site.shows_now, 0),
            (self.site.was,),
        ]
        for call, *given in asked:
            for at in NO_TIMES + (7, 8):
                self.refuse(NoTime, call, *given, at)
            for at in (0, 1, 6, None):
                call(*given, at)

    def test_no_name_is_ahead_of_no_time(self):
        for name in NO_NAMES + (None,):
            for at in (0, None, 7, True, "x"):
                self.refuse(NoName, self.site.entry, name, at)
                self.refuse(NoName, self.site.lead, name, None, at)
                self.refuse(NoName, self.site.way, name, "p", at)
                self.refuse(NoName, self.site.lead, name, "", at)
        for part in NO_PARTS:
            for at in (0, None, 7, True, "x"):
                self.refuse(NoName, self.site.part_sign, 0, part, at)
                self.refuse(NoName, self.site.lead, "a", part, at)
                self.refuse(NoName, self.site.way, "a", part, at)
        self.refuse(NoName, self.site.part_sign, 0, None, 7)


class PartSignTest(SiteCase):
    def test_at_each_time(self):
        site = site_of("write a: = p =\\n1\\n= q =\\n2", "part a # P > b", "part a # q > c", "rename b > d")
        self.assertEqual([site.part_sign(0, "p", at) for at in range(5)], [None, None, "b", "b", "b"])
        self.assertEqual([site.part_sign(0, "q", at) for at in range(5)], [None, None, None, "c", "c"])
        self.assertEqual(site.part_sign(0, " P "), "b")
        self.assertEqual(site.part_sign(0, "p", None), "b")
        self.assertIsNone(site.part_sign(0, "r"))
        self.assertIsNone(site.part_sign(1, "p"))
        # Page 1 was not made at time 1.
        self.assertIsNone(site.part_sign(1, "p", 1))

    def test_gone_where_a_text_comes_to_have_the_part(self):
        site = site_of("write a: = p =", "part a # p > b", "write a: x\\n= P =", "write a: x")
        self.assertEqual([site.part_sign(0, "p", at) for at in range(5)], [None, None, "b", None, None])
        leads = [("nothing", "a", "p", 0), ("page", 0, "p", 0), ("page", 1, None, 1), ("page", 0, "p", 0),
                 ("page", 0, "", 0)]
        self.assertEqual([site.lead("a", "p", at) for at in range(5)], leads)

    def test_only_those_of_parts_that_it_comes_to_have(self):
        site = site_of("write a: = p =\\n= q =", "part a # p > b", "part a # q > c", "write a: = q =\\n[[a#p]]")
        self.assertEqual((site.part_sign(0, "p"), site.part_sign(0, "q")), ("b", None))

    def test_a_page_away_keeps_its_signs(self):
        site = site_of("write a: = p =", "part a # p > b", "away a")
        self.assertEqual(site.part_sign(0, "p"), "b")
        self.assertEqual(site.lead("a", "p"), ("away", 0, "p", 0))
        site.bring_back("a")
        self.assertEqual(site.lead("a", "p"), ("page", 1, None, 1))


class LeadTest(SiteCase):
    def test_a_page(self):
        site = site_of("write a: = p =")
        self.assertEqual(site.lead("a"), ("page", 0, None, 0))
        self.assertEqual(site.lead("a", None), ("page", 0, None, 0))
        self.assertEqual(site.lead("a", "P"), ("page", 0, "p", 0))
        self.assertEqual(site.lead("a", "q"), ("page", 0, "", 0))

    def test_nothing(self):
        site = site_of("sign a > b", "sign c > b#q")
        self.assertEqual(site.lead("b"), ("nothing", "b", None, 0))
        self.assertEqual(site.lead("b", "p"), ("nothing", "b", "p", 0))
        self.assertEqual(site.lead("a"), ("nothing", "b", None, 1))
        self.assertEqual(site.lead("a", "p"), ("nothing", "b", "p", 1))
        self.assertEqual(site.lead("c"), ("nothing", "b", "q", 1))
        self.assertEqual(site.lead("c", "p"), ("nothing", "b", "p", 1))

    def test_away(self):
        site = site_of("write z: ", "write b: = q =", "sign a > b#q", "away b")
        self.assertEqual(site.lead("b"), ("away", 1, None, 0))
        # Away, the part is told as it was asked, whether the text has it or not.
        self.assertEqual(site.lead("b", "q"), ("away", 1, "q", 0))
        self.assertEqual(site.lead("b", "p"), ("away", 1, "p", 0))
        self.assertEqual(site.lead("a"), ("away", 1, "q", 1))
        self.assertEqual(site.lead("a", "p"), ("away", 1, "p", 1))

    def test_a_part_asked_is_ahead_of_the_signs_own(self):
        site = site_of("write b: = p =\\n= q =", "sign a > b#q")
        self.assertEqual(site.lead("a"), ("page", 0, "q", 1))
        self.assertEqual(site.lead("a", "p"), ("page", 0, "p", 1))
        self.assertEqual(site.lead("a", "r"), ("page", 0, "", 1))

    def test_the_first_part_on_the_way_is_kept(self):
        site = site_of("write d: = p =\\n= q =", "sign c > d#p", "sign b > c#q", "sign a > b")
        self.assertEqual(site.lead("c"), ("page", 0, "p", 1))
        self.assertEqual(site.lead("b"), ("page", 0, "q", 2))
        self.assertEqual(site.lead("a"), ("page", 0, "q", 3))
        self.assertEqual(site.way("a"), ["a", "b", "c", "d"])

    def test_a_part_that_has_a_sign(self):
        site = site_of("write a: = p =\\nx", "part a # p > b", "sign c > a#p", "sign d > a")
        self.assertEqual(site.lead("a", "p"), ("page", 1, None, 1))
        self.assertEqual(site.way("a", "p"), ["a", "b"])
        self.assertEqual(site.lead("c"), ("page", 1, None, 2))
        self.assertEqual(site.way("c"), ["c", "a", "b"])
        self.assertEqual(site.lead("d", "p"), ("page", 1, None, 2))
        self.assertEqual(site.lead("d"), ("page", 0, None, 1))
        self.assertEqual(site.lead("c", "q"), ("page", 0, "", 1))

    def test_behind_a_parts_sign_none_is_asked(self):
        site = site_of("write a: = p =\\nx", "write e: = q =", "part a # p > b", "away b", "sign b > e#q")
        # The sign at b has a part of its own, and it is that which is asked then.
        self.assertEqual(site.lead("a", "p"), ("page", 1, "q", 2))
        self.assertEqual(site.way("a", "p"), ["a", "b", "e"])

    def test_signs_of_parts_one_behind_the_other(self):
        site = site_of("write a: = p =\\n1", "part a # p > b", "write b: = q =\\n2", "part b # q > c", "away c",
                       "sign c > d", "write d: ", "away b", "sign b > e", "write e: = q =", "part e # q > f")
        self.assertEqual(site.lead("a", "p"), ("page", 4, None, 2))
        self.assertEqual(site.lead("b", "q"), ("page", 5, None, 2))
        self.assertEqual(site.way("b", "q"), ["b", "e", "f"])

    def test_a_name_twice_with_unlike_parts(self):
        site = site_of("write a: = p =\\nx", "part a # p > b", "join b > a")
        self.assertEqual(site.way("a", "p"), ["a", "b", "a"])
        self.assertEqual(site.lead("a", "p"), ("page", 0, None, 2))
        site = site_of("write a: = p =\\nx", "part a # p > b", "away b", "sign b > a#q", "write a: = q =")
        self.assertEqual(site.way("a", "p"), ["a", "b", "a"])
        self.assertEqual(site.lead("a", "p"), ("page", 0, "q", 2))

    def test_a_long_way(self):
        rows = ["write a: = p ="] + [f"rename {'a' if at == 0 else f'n{at}'} > n{at + 1}" for at in range(120)]
        site = site_of(*rows)
        self.assertEqual(site.lead("a"), ("page", 0, None, 120))
        self.assertEqual(site.lead("a", "p"), ("page", 0, "p", 120))
        self.assertEqual(site.way("a"), ["a"] + [f"n{at + 1}" for at in range(120)])
        for at in range(1, 122):
            self.assertEqual(site.lead("a", None, at), ("page", 0, None, at - 1))

    def test_at_an_elder_time_by_the_texts_of_that_time(self):
        site = site_of("write a: = p =", "write a: x", "write b: ", "rename a > c", "away c")
        leads = [("nothing", "a", "p", 0), ("page", 0, "p", 0), ("page", 0, "", 0), ("page", 0, "", 0),
                 ("page", 0, "", 1), ("away", 0, "p", 1)]
        self.assertEqual([site.lead("a", "p", at) for at in range(6)], leads)
        self.assertEqual([site.way("a", None, at) for at in range(6)], [["a"]] * 4 + [["a", "c"]] * 2)


class RingTest(SiteCase):
    def test_signs_round(self):
        self.refuse_row(Ring, Site(), "sign a > a")
        self.refuse_row(Ring, Site(), "sign a > a#p")
        site = site_of("sign a > b", "sign b > c")
        self.refuse_row(Ring, site, "sign c > a")
        self.refuse_row(Ring, site, "sign c > b#p")
        self.refuse_row(Ring, site, "sign c > c")
        site.put_sign("c", "d#p")
        self.refuse_row(Ring, site, "sign d > a#q")

    def test_put_sign_round_only_with_a_part(self):
        # Without a part, b ends at page a; only a with p, which no text bears, comes round.
        site = site_of("write a: = p =\\nx", "part a # p > b", "away b")
        self.refuse_row(Ring, site, "sign b > a#p")
        site.put_sign("b", "a#q")
        self.assertEqual(site.lead("a", "p"), ("page", 0, "", 2))
        self.refuse_row(Ring, site, "sign b > a#P")
        site.put_sign("b", "a")
        self.assertEqual(site.lead("b", "p"), ("page", 0, None, 3))

    def test_rename(self):
        site = site_of("write a: = p =\\nx", "part a # p > b", "away b", "sign b > c#p")
        self.refuse_row(Ring, site, "rename a > c")
        self.refuse_row(Ring, site, "family a > c")
        site.rename("a", "d")
        self.refuse_row(Ring, site, "rename d > c")

    def test_join(self):
        site = site_of("write a: = p =\\nx", "write c: ", "part a # p > b", "away b", "sign b > c#p")
        self.assertEqual(site.lead("a", "p"), ("page", 1, "", 2))
        self.refuse_row(Ring, site, "join a > c")
        site.write("c", "= q =")
        self.refuse_row(Ring, site, "join a > c")

    def test_bring_back(self):
        site = site_of("write a: = p =\\nx", "part a # p > b", "away b", "away a", "sign b > a#p")
        self.assertEqual(site.lead("b"), ("away", 0, "p", 1))
        self.refuse_row(Ring, site, "back a")
        site.put_sign("b", "c")
        site.bring_back("a")
        self.assertEqual(site.lead("a", "p"), ("nothing", "c", None, 2))

    def test_family(self):
        site = site_of("write a/x: = p =\\n1", "write a/y: ", "part a/x # p > b", "away b", "sign b > c/x#p")
        self.refuse_row(Ring, site, "family a > c")
        site.put_sign("b", "c/y#p")
        site.rename_family("a", "c")
        self.assertEqual(site.lead("c/x", "p"), ("page", 1, "", 2))

    def test_behind_all_other_refusals(self):
        # Of b as of c: Ring would be due, too, but what else is refused comes first.
        site = site_of("write a: = p =\\nx", "part a # p > b", "away b", "sign b > c#p", "write d: [[c]]")
        site.put_sign("c", "e")
        self.refuse_barred(2, site, "rename a > c")
        self.refuse_barred(2, site, "family a > c")
        self.refuse_barred(2, site, "sign c > c")
        site = site_of("write z: [[b]]", "write a: = p =\\nx", "part a # p > b", "away b")
        self.refuse_barred(0, site, "sign b > a#p")

    def test_join_clash_is_ahead_of_ring(self):
        site = site_of("write a: = p =\\nx", "write c: = q =\\n", "part a # p > b", "away b", "sign b > c#p",
                       "part c # q > d", "write a: = q =")
        self.refuse_row(Clash, site, "join a > c")
        long = "x" * 399
        site = site_of("write a: = p =\\nx", "write c: ", "part a # p > b", "away b", "sign b > c#p")
        for name in "efgh":
            site.write(name, long)
            site.join(name, "c")
        site.write("a", long[:398])
        self.assertEqual(len(site.text(1)), 1600)
        site.write("i", "y")
        self.refuse_row(Ring, site, "join a > c")
        site.join("i", "c")
        site.write("a", long + "x")
        self.refuse_row(TooLong, site, "join a > c")

    def test_a_way_may_come_to_a_name_again_without_a_ring(self):
        site = site_of("write a: = p =\\nx", "part a # p > b", "away b")
        site.rename("a", "b")
        self.assertEqual(site.way("a", "p"), ["a", "b", "b"])
        self.assertEqual(site.lead("a", "p"), ("page", 0, None, 2))


if __name__ == "__main__":
    unittest.main()
