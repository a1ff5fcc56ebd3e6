"""Points 37 and 38: signs made straight, texts renewed."""

import random
import unittest

from helper import PARTS, SiteCase, drawn_site, known_names, refusal, site_of
from signsleft.errors import Away, NoPage, Same, Sign, TooLong
from signsleft.sites import Site


class StraightenTest(SiteCase):
    def test_signs_in_a_row(self):
        site = site_of("write a: ", "rename a > b", "rename b > c", "rename c > d", "straight")
        self.assertEqual([site.entry(name) for name in "abcd"], [("sign", "d", None)] * 3 + [("page", 0)])
        self.assertEqual(site.deeds()[-1], ("straight",))

    def test_parts_amid(self):
        site = site_of("sign c > d#q", "sign b > c#p", "sign a > b", "sign e > c", "straight")
        self.assertEqual([site.entry(name) for name in "abce"],
                         [("sign", "d", "p"), ("sign", "d", "p"), ("sign", "d", "q"), ("sign", "d", "q")])

    def test_its_own_part_is_kept(self):
        site = site_of("write d: ", "sign c > d#q", "sign b > c#p", "straight")
        self.assertEqual(site.entry("b"), ("sign", "d", "p"))

    def test_signs_of_parts_are_not_gone_by(self):
        site = site_of("write a: = p =\\nx", "part a # p > b", "sign c > a#p", "sign d > c", "straight")
        self.assertEqual((site.entry("d"), site.entry("c")), (("sign", "a", "p"), ("sign", "a", "p")))
        self.assertEqual((site.lead("d"), site.part_sign(0, "p")), (("page", 1, None, 2), "b"))

    def test_to_free_names_and_pages_away(self):
        site = site_of("sign a > b", "sign c > a", "write d: ", "away d", "sign e > d", "sign f > e", "straight")
        self.assertEqual((site.entry("c"), site.entry("f")), (("sign", "b", None), ("sign", "d", None)))

    def test_same(self):
        self.refuse_row(Same, Site(), "straight")
        self.refuse_row(Same, site_of("write a: "), "straight")
        site = site_of("write a: = p =\\n", "part a # p > b", "rename b > c", "sign d > a#p", "sign e > z")
        self.refuse_row(Same, site, "straight")
        site.rename("a", "f")
        site.straighten()
        self.refuse_row(Same, site, "straight")

    def test_where_every_name_led_by_no_more_signs(self):
        straightened = 0
        for seed in range(40):
            site = drawn_site(random.Random(seed), 40)[0]
            later = site.was(None)
            if refusal(later.straighten) is not None:
                continue
            straightened += 1
            for name in known_names(site):
                for part in (None, "other", *PARTS):
                    before, behind = site.lead(name, part), later.lead(name, part)
                    self.assertEqual(behind[:3], before[:3])
                    self.assertLessEqual(behind[3], before[3])
            for name in later.names_known():
                entry = later.entry(name)
                if entry[0] == "sign":
                    onward = later.entry(entry[1])
                    self.assertTrue(onward is None or onward[0] != "sign")
        self.assertGreater(straightened, 10)


class RenewTest(SiteCase):
    def renewed(self, text, *rows):
        site = site_of(*rows)
        site.write("t", text)
        site.renew("T")
        return site.text(site.entry("t")[1])

    def test_each_way_to_bear_a_name(self):
        rows = ("write a: = p =", "rename a > b/c")
        self.assertEqual(self.renewed("[[a]]", *rows), "[[b/c|a]]")
        self.assertEqual(self.renewed("[[ A_]]", *rows), "[[b/c| A_]]")
        self.assertEqual(self.renewed("[[a|word]]", *rows), "[[b/c|word]]")
        self.assertEqual(self.renewed("[[A#P]]", *rows), "[[b/c#p|A#P]]")
        self.assertEqual(self.renewed("[[a# p |w#w]]", *rows), "[[b/c#p|w#w]]")
        self.assertEqual(self.renewed("x [[a]]y[[a|z]]\n[[[a]]]", *rows), "x [[b/c|a]]y[[b/c|z]]\n[[[b/c|a]]]")

    def test_a_part_that_is_left_and_one_that_is_not_there(self):
        rows = ("write a: = p =", "rename a > b")
        self.assertEqual(self.renewed("[[a#p]] [[a#q]]", *rows), "[[b#p|a#p]] [[b#q|a#q]]")

    def test_a_part_of_the_sign(self):
        rows = ("write a: = p =", "sign s > a#p", "sign t2 > a#q", "sign u > s")
        self.assertEqual(self.renewed("[[s]] [[t2]] [[u]] [[u#r]]", *rows),
                         "[[a#p|s]] [[a#q|t2]] [[a#p|u]] [[a#r|u#r]]")

    def test_a_part_that_has_a_sign(self):
        rows = ("write a: = p =\\nx", "part a # p > b")
        self.assertEqual(self.renewed("[[a#p]] [[a#q]] [[a]]", *rows), "[[b|a#p]] [[a#q]] [[a]]")
        rows += ("away b", "sign b > a#q")
        self.assertEqual(self.renewed("[[a#p|w]]", *rows), "[[a#q|w]]")

    def test_what_stays_as_it_is_written(self):
        rows = ("write a: ", "rename a > b", "write c: ", "sign s > free", "write w: ", "sign v > w", "away w")
        text = "[[ B ]] [[C|c]] [[s]] [[v]] [[w]] [[nothing#p]] [[a|]] [[a[[ = a ="
        self.assertEqual(self.renewed(text + "[[A]]", *rows), text + "[[b|A]]")

    def test_same(self):
        site = site_of("write a: ", "rename a > b", "write c: [[b]] [[free]] [[c]]", "write d: plain", "write e: ",
                       "sign s > free", "write f: [[s]]")
        for name in "bcdef":
            self.refuse_row(Same, site, f"renew {name}")
        site.write("c", "[[a]]")
        site.renew("c")
        self.refuse_row(Same, site, "renew c")

    def test_page_at_the_name(self):
        site = site_of("write a: [[b]]", "write b: ", "rename b > c", "away a")
        self.refuse_row(NoPage, site, "renew z")
        self.refuse_row(Sign, site, "renew b")
        self.refuse_row(Away, site, "renew a")

    def test_of_itself(self):
        site = site_of("write a: [[a]]", "rename a > b", "renew b")
        self.assertEqual((site.text(0), site.stands(0)), ("[[b|a]]", [1, 2, 3]))
        self.assertEqual(site.deeds()[-1], ("renew", "b"))

    def test_too_long(self):
        long = "b" * 24
        # Each [[a]] comes to 30 signs.
        site = site_of("write a: ", f"rename a > {long}", "write t: " + "[[a]]" * 66 + "x" * 20)
        site.renew("t")
        self.assertEqual(len(site.text(1)), 2000)
        site = site_of("write a: ", f"rename a > {long}", "write t: " + "[[a]]" * 66 + "x" * 21)
        self.refuse_row(TooLong, site, "renew t")
        site.write("t", "[[a]]" * 80)
        self.refuse_row(TooLong, site, "renew t")

    def test_shows_the_same_words_each_leading_where_it_led(self):
        renewed = 0
        for seed in range(60):
            site = drawn_site(random.Random(seed), 40)[0]
            for number in site.standing():
                later = site.was(None)
                if refusal(later.renew, site.called(number)) is not None:
                    continue
                renewed += 1
                before, behind = site.shows(number), later.shows(number)
                self.assertEqual(len(before), len(behind))
                for elder, newer in zip(before, behind):
                    self.assertEqual(elder[:2], newer[:2])
                    if elder[0] == "name":
                        self.assertEqual(elder[2][:3], newer[2][:3])
                        anew = elder[2][0] == "page"
                        self.assertEqual(newer[2][3], 0 if anew else elder[2][3])
                self.refuse(Same, later.renew, site.called(number))
        self.assertGreater(renewed, 15)


if __name__ == "__main__":
    unittest.main()
