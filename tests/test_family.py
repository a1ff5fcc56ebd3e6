"""Point 31: families renamed."""

import unittest

from helper import SiteCase, site_of
from signsleft.errors import NoName, NoPage, NoRule, Ring, Taken


class FamilyTest(SiteCase):
    def test_all_pages_in_one_deed(self):
        site = site_of("write a: 1", "write a/x: 2", "write ab: 3", "write a/x/y: 4", "write c/a: 5", "family A > D/e")
        self.assertEqual([site.called(number) for number in range(5)], ["d/e", "d/e/x", "ab", "d/e/x/y", "c/a"])
        self.assertEqual(site.time(), 6)
        for number in (0, 1, 3):
            self.assertEqual(site.stands(number)[-1], 6)
        self.assertEqual([site.entry(name) for name in ("a", "a/x", "a/x/y")],
                         [("sign", "d/e", None), ("sign", "d/e/x", None), ("sign", "d/e/x/y", None)])
        self.assertEqual(site.deeds()[-1], ("family", "a", "d/e"))

    def test_a_family_without_a_page_at_its_stem(self):
        site = site_of("write a/x: 1", "write a/y: 2", "family a > b")
        self.assertEqual((site.entry("b/x"), site.entry("b/y"), site.entry("b"), site.entry("a")),
                         (("page", 0), ("page", 1), None, None))

    def test_signs_and_pages_away_are_not_moved(self):
        site = site_of("write a: 1", "write a/x: 2", "away a/x", "sign a/s > a", "write a/j: 3", "write z: ",
                       "join a/j > z",
                       "family a > b")
        self.assertEqual([site.entry(name) for name in ("b", "b/x", "b/s", "b/j")], [("page", 0), None, None, None])
        self.assertEqual([site.entry(name) for name in ("a/x", "a/s", "a/j")],
                         [("away", 1), ("sign", "a", None), ("sign", "z", None)])

    def test_no_rule(self):
        site = site_of("write a: 1", "write a/x: 2", "write b: 3")
        for row in ("family a > a", "family a > A_", "family a > a/x", "family a/x > a", "family a/q > a/q/r"):
            self.refuse_row(NoRule, site, row)
        # NoRule is ahead of NoPage, and NoName ahead of NoRule.
        self.refuse_row(NoRule, site, "family q > q/r")
        self.refuse_row(NoRule, site, "family q/r > q")
        self.refuse_row(NoRule, site, "family q > q")
        self.refuse_deed(NoName, site, ("family", "a//", "a//"))
        self.refuse_deed(NoName, site, ("family", "a", "a//"))

    def test_no_page(self):
        site = site_of("write a: 1", "sign b > a", "write c: ", "away c", "write d/x: ", "write bb: ")
        for stem in ("b", "c", "d/x/y", "e", "d_x", "aa"):
            self.refuse_row(NoPage, site, f"family {stem} > z")
        site.rename_family("d", "z")
        self.refuse_row(NoPage, site, "family d > y")

    def test_names_that_come_to_none(self):
        site = site_of("write a/x/y/z: 1", "write b: 1", "write a: 2")
        self.refuse_row(NoName, site, "family a > c/d")
        site.rename_family("a", "c")
        self.assertEqual(site.called(0), "c/x/y/z")
        # Names of 24 signs, and of 25.
        site = site_of("write a/bc: 1")
        self.refuse_row(NoName, site, f"family a > {'d' * 22}")
        site.rename_family("a", "d" * 21)
        self.assertEqual(len(site.called(0)), 24)

    def test_the_first_refusal_by_name_is_raised(self):
        # By their names: a/p would be Taken, a/q Barred, a/r/s/t no name.
        rows = ["write a/r/s/t: ", "write a/q: ", "write a/p: ", "write z: [[b/q]]", "sign b/q > z"]
        self.refuse_row(Taken, site_of(*rows, "write b/p: "), "family a > b")
        self.refuse_barred(3, site_of(*rows), "family a > b")
        self.refuse_barred(3, site_of(*rows, "sign b/c/q > z", "write y: [[b/c/q]]"), "family a > b")
        site = site_of(*rows, "sign b/c/q > z")
        self.refuse_row(NoName, site, "family a > b/c")
        site.write("y", "[[b/c/q]]")
        self.refuse_barred(4, site, "family a > b/c")
        site.write("b/c/p", "")
        self.refuse_row(Taken, site, "family a > b/c")

    def test_back_to_elder_names_whatever_bars_them(self):
        site = site_of("write z: [[a]] [[a/x]] [[a/y]]", "write a: ", "write a/x: ", "family a > b", "rename b/x > b/y",
                       "rename b/y > b/x")
        self.assertEqual((site.bar("a"), site.bar("a/x")), (0, 0))
        site.rename_family("b", "a")
        self.assertEqual((site.entry("a"), site.entry("a/x"), site.entry("b/x")),
                         (("page", 1), ("page", 2), ("sign", "a/x", None)))

    def test_looked_at_as_things_stand_ahead(self):
        # Renamed first, a/p would leave b/q without namers; but ahead of the deed page 0 bars it.
        rows = ["write z: [[b/p]]", "write a/p: ", "write a/q: ", "sign b/q > a/p", "sign b/p > b/q"]
        self.refuse_barred(0, site_of(*rows), "family a > b")
        site = site_of(*rows, "rename a/p > b/p", "rename a/q > b/q")
        self.assertEqual((site.entry("b/p"), site.entry("b/q")), (("page", 1), ("page", 2)))

    def test_ring(self):
        site = site_of("write a/x: = p =\\n1", "part a/x # p > s", "away s", "sign s > b/x#p")
        self.refuse_row(Ring, site, "family a > b")
        # Behind another refusal.
        site.write("a/y", "")
        site.write("b/y", "")
        self.refuse_row(Taken, site, "family a > b")


if __name__ == "__main__":
    unittest.main()
