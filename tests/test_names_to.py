"""Points 40 and 41: the names of a page, the story of a name, and the tree."""

import unittest

from helper import SiteCase, site_of
from signsleft.sites import Site


class NamesToTest(SiteCase):
    def test_sorted_names(self):
        site = site_of("write m: = p =", "rename m > z", "rename z > c", "sign a > m", "sign b > c#p", "sign d > a",
                       "write e: ", "sign f > free")
        self.assertEqual(site.names_to(0), ["a", "b", "c", "d", "m", "z"])
        self.assertEqual(site.names_to(1), ["e"])

    def test_a_way_that_goes_on_by_the_sign_of_a_part(self):
        site = site_of("write a: = p =\\n", "part a # p > b", "sign c > a#p", "sign d > a#q")
        self.assertEqual((site.names_to(0), site.names_to(1)), (["a", "d"], ["b", "c"]))

    def test_pages_that_do_not_stand(self):
        site = site_of("write a: ", "rename a > b", "away b", "write c: ", "write d: ", "join c > d", "write e: ",
                       "away e",
                       "write e: x")
        self.assertEqual([site.names_to(number) for number in range(5)], [[], [], ["c", "d"], [], ["e"]])
        site.bring_back("b")
        self.assertEqual(site.names_to(0), ["a", "b"])


class StoryTest(SiteCase):
    def test_away_back_sign_and_anew(self):
        site = site_of("write z: ", "write a: ", "away a", "back a", "away a", "sign a > z", "write y: ",
                       "sign a > y#p",
                       "sign x > y", "write a: anew", "rename a > b", "rename b > a")
        self.assertEqual(site.story("A"), [
            (2, ("page", 1)), (3, ("away", 1)), (4, ("page", 1)), (5, ("away", 1)), (6, ("sign", "z", None)),
            (8, ("sign", "y", "p")), (10, ("page", 3)), (11, ("sign", "b", None)), (12, ("page", 3)),
        ])
        self.assertEqual(site.story("b"), [(11, ("page", 3)), (12, ("sign", "a", None))])

    def test_only_where_it_became_another_one(self):
        site = site_of("write a: ", "write a: x", "write b: ", "rename a > c", "rename c > d", "straight", "join b > d")
        self.assertEqual(site.story("a"), [(1, ("page", 0)), (4, ("sign", "c", None)), (6, ("sign", "d", None))])
        self.assertEqual(site.story("d"), [(5, ("page", 0))])
        self.assertEqual(site.story("b"), [(3, ("page", 1)), (7, ("sign", "d", None))])
        self.assertEqual(site.story("free"), [])

    def test_of_a_site_as_it_was(self):
        site = site_of("write a: ", "away a", "back a")
        self.assertEqual(site.was(2).story("a"), [(1, ("page", 0)), (2, ("away", 0))])


class TreeTest(SiteCase):
    def test_segments_under_which_no_page_stands(self):
        site = site_of("write b/x/y: ", "write a: ", "write b/x: ", "write c/d/e/f: ", "write b/a: ")
        self.assertEqual(site.tree(), [
            (0, "a", 1), (0, "b", None), (1, "a", 4), (1, "x", 2), (2, "y", 0),
            (0, "c", None), (1, "d", None), (2, "e", None), (3, "f", 3),
        ])

    def test_beside_one_another_by_the_segments_texts(self):
        site = site_of("write a_b: ", "write a0: ", "write a/b: ", "write a: ", "write ab/c: ", "write a/_0: ",
                       "write a_b/a: ")
        self.assertEqual(site.tree(), [
            (0, "a", 3), (1, "0", 5), (1, "b", 2), (0, "a0", 1), (0, "a_b", 0), (1, "a", 6), (0, "ab", None),
            (1, "c", 4),
        ])

    def test_only_pages_that_stand(self):
        self.assertEqual(Site().tree(), [])
        site = site_of("write a: ", "write b/c: ", "sign d > a", "away a", "rename b/c > e")
        self.assertEqual(site.tree(), [(0, "e", 1)])


if __name__ == "__main__":
    unittest.main()
