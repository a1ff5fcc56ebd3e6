"""Points 17 to 23: the deeds of a site, and what refuses them, in its order."""

import unittest

from helper import SiteCase, site_of
from signsleft.errors import (
    Away, Barred, Clash, NoName, NoPage, NoPart, NoRule, NotAway, NoText, Same, Sign, Taken, TooLong,
)
from signsleft.sites import Site

NO_NAMES = ("", " ", "a//b", "a.b", "a" * 25, "a/b/c/d/e", None, 0, True, ["a"], b"a")
NO_PARTS = ("", "_", "p/q", "p" * 13, None, 0, True, ["p"], b"p")
NO_TEXTS = (None, 0, True, [], ["x"], b"x", ("x",), "x" * 401)


def mixed():
    """A site with a page (a, z), a sign (s), a page away (w), a barred sign (t), a barred name away (v); f is free."""
    return site_of("write a: = p =\\nx", "write z: [[t]] [[v]]", "sign s > a", "write w: ", "away w", "sign t > a",
                   "write v: ", "away v")


class NamesFirstTest(SiteCase):
    def test_each_name_in_order(self):
        site = mixed()
        deeds = []
        for bad in NO_NAMES:
            deeds += [("write", bad, "x"), ("write", bad, None), ("away", bad), ("back", bad), ("renew", bad)]
            # A name that is none is ahead of what else is refused of the other one.
            for name in ("a", "s", "w", "f", bad):
                for word in ("rename", "join", "sign", "family"):
                    deeds += [(word, bad, name), (word, name, bad)]
                deeds += [("part", bad, "p", name), ("part", name, "p", bad)]
        for bad in NO_PARTS:
            for name in ("a", "s", "w", "f"):
                deeds += [("part", name, bad, "f"), ("part", name, bad, "a")]
        self.refuse_deeds(NoName, site, deeds)

    def test_text_behind_names_and_ahead_of_all_else(self):
        site = mixed()
        names = ("a", "s", "w", "f", "t", "v")
        self.refuse_deeds(NoText, site, [("write", name, text) for name in names for text in NO_TEXTS])
        self.refuse_deeds(NoName, site, [("write", "", text) for text in NO_TEXTS])

    def test_bounds_of_texts(self):
        site = Site()
        site.write("a", "x" * 400)
        self.assertEqual(site.text(0), "x" * 400)
        self.refuse_deed(NoText, site, ("write", "a", "x" * 401))
        self.refuse_deed(NoText, site, ("write", "b", "\n" * 401))
        site.write("b", "\n" * 400)
        self.assertEqual(site.text(1), "\n" * 400)

    def test_deeds_give_none(self):
        site = Site()
        told = [
            site.write("A ", "= p =\n[[b]]"), site.part("a", "P", "B"), site.rename("b", "C"),
            site.put_sign("d", "b"), site.straighten(), site.take_away("a"), site.bring_back("a"), site.join("c", "a"),
            site.rename_family("a", "e"),
        ]
        self.assertEqual(told, [None] * len(told))
        site.write("f", "[[a]]")
        self.assertIsNone(site.renew("F"))


class PageAtTest(SiteCase):
    def test_each_deed_that_asks_for_one(self):
        site = mixed()
        for name, error in (("f", NoPage), ("s", Sign), ("w", Away), ("t", Sign), ("v", Away)):
            for row in (f"rename {name} > g", f"part {name} # p > g", f"join {name} > a", f"join a > {name}",
                        f"away {name}", f"renew {name}"):
                self.refuse_row(error, site, row)

    def test_it_is_ahead_of_what_follows(self):
        site = mixed()
        for name, error in (("f", NoPage), ("s", Sign), ("w", Away)):
            self.refuse_row(error, site, f"rename {name} > {name}")   # ahead of Same
            self.refuse_row(error, site, f"rename {name} > a")        # ahead of Taken
            self.refuse_row(error, site, f"rename {name} > t")        # ahead of Barred
            self.refuse_row(error, site, f"part {name} # q > a")      # ahead of NoPart and Taken
            self.refuse_row(error, site, f"join {name} > {name}")     # ahead of Same
        # Of two pages that are asked the first one's refusal comes first.
        self.refuse_row(NoPage, site, "join f > s")
        self.refuse_row(Sign, site, "join s > f")
        self.refuse_row(Away, site, "join w > s")
        self.refuse_row(Sign, site, "join a > s")


class WriteTest(SiteCase):
    def test_a_new_page_and_a_new_text(self):
        site = Site()
        site.write("Big  Cat", "x")
        self.assertEqual((site.entry("big_cat"), site.text(0), site.made()), (("page", 0), "x", 1))
        site.write("big-cat", "")
        self.assertEqual((site.entry("big_cat"), site.text(0), site.made()), (("page", 0), "", 1))
        self.refuse_row(Same, site, "write big_cat: ")
        site.write("b", "")
        self.assertEqual((site.entry("b"), site.made()), (("page", 1), 2))

    def test_at_a_sign_and_where_a_page_is_away(self):
        site = mixed()
        site.write("s", "new")
        self.assertEqual(site.entry("s"), ("page", 4))
        site.write("w", "new")
        self.assertEqual(site.entry("w"), ("page", 5))
        self.assertFalse(site.stands_now(2))

    def test_barred(self):
        site = mixed()
        self.refuse_barred(1, site, "write t: x")
        self.refuse_barred(1, site, "write v: x")
        # A text that would bar it no more than others do.
        self.refuse_barred(1, site, "write t: [[t]]")

    def test_a_free_name_is_not_barred(self):
        site = site_of("write a: [[b]]", "write b: x")
        self.assertEqual(site.lead("b"), ("page", 1, None, 0))

    def test_barred_by_a_page_that_is_away_itself(self):
        site = site_of("write a: [[a]]", "away a")
        self.refuse_barred(0, site, "write a: x")
        site.bring_back("a")

    def test_same_is_not_asked_of_a_page_that_is_away(self):
        site = site_of("write a: x", "away a", "write a: x")
        self.assertEqual((site.made(), site.entry("a")), (2, ("page", 1)))


class RenameTest(SiteCase):
    def test_a_sign_is_left(self):
        site = site_of("write a: x", "rename A > B-b")
        self.assertEqual((site.entry("a"), site.entry("b_b")), (("sign", "b_b", None), ("page", 0)))
        self.assertEqual((site.called(0), site.lead("a", "p")), ("b_b", ("page", 0, "", 1)))

    def test_same(self):
        site = site_of("write a: [[a]]")
        self.refuse_row(Same, site, "rename a >  A_")

    def test_place(self):
        site = mixed()
        self.refuse_row(Taken, site, "rename a > z")
        self.refuse_barred(1, site, "rename z > t")
        self.refuse_barred(1, site, "rename z > v")
        site.rename("z", "w")
        self.assertEqual((site.entry("w"), site.stands_now(2)), (("page", 1), False))
        site.rename("w", "s")
        self.assertEqual(site.entry("s"), ("page", 1))

    def test_back_by_one_sign_whatever_bars_it(self):
        site = site_of("write z: [[a]]", "write a: ", "rename a > b")
        self.assertEqual(site.bar("a"), 0)
        site.rename("b", "a")
        self.assertEqual((site.entry("a"), site.entry("b")), (("page", 1), ("sign", "a", None)))
        self.assertEqual(site.shows_now(0), [("name", "a", ("page", 1, None, 0))])

    def test_back_by_several_signs(self):
        site = site_of("write z: [[a]] [[b]] [[c]]", "write a: ", "rename a > b", "rename b > c", "rename c > d")
        for name in "abc":
            self.assertEqual(site.bar(name), 0)
        site.rename("d", "a")
        for name, signs in (("a", 0), ("b", 3), ("c", 2), ("d", 1)):
            self.assertEqual(site.lead(name), ("page", 1, None, signs))
        site.rename("a", "c")
        self.assertEqual([site.lead(name)[3] for name in "abcd"], [1, 1, 0, 2])

    def test_back_by_a_sign_that_was_put(self):
        site = site_of("write z: [[e]]", "write a: ", "sign e > a")
        site.rename("a", "e")
        self.assertEqual(site.entry("e"), ("page", 1))

    def test_a_sign_with_a_part_on_the_way(self):
        site = site_of("write z: [[e]] [[f]]", "write a: = p =", "sign e > a#p", "sign f > e")
        self.refuse_barred(0, site, "rename a > e")
        self.refuse_barred(0, site, "rename a > f")
        site = site_of("write z: [[f]]", "write a: = p =", "sign e > a", "sign f > e#p")
        self.refuse_barred(0, site, "rename a > f")
        site = site_of("write z: [[f]]", "write a: = p =", "sign e > a", "sign f > e#p", "write z: ")
        self.refuse_barred(0, site, "rename a > f")

    def test_a_sign_with_a_part_that_is_not_barred(self):
        site = site_of("write a: = p =", "sign e > a#p", "rename a > e")
        self.assertEqual((site.entry("e"), site.entry("a")), (("page", 0), ("sign", "e", None)))

    def test_an_elder_name_of_another_page(self):
        site = site_of("write z: [[a]]", "write a: ", "write b: ", "rename a > c")
        self.refuse_barred(0, site, "rename b > a")
        site = site_of("write a: ", "write b: ", "rename a > c", "rename b > a")
        self.assertEqual((site.entry("a"), site.entry("b")), (("page", 1), ("sign", "a", None)))

    def test_to_the_name_of_a_page_joined_into_it(self):
        site = site_of("write z: [[a]]", "write a: 1", "write b: 2", "join a > b", "rename b > a")
        self.assertEqual((site.entry("a"), site.entry("b"), site.standing()),
                         (("page", 2), ("sign", "a", None), [0, 2]))

    def test_an_elder_name_where_a_page_is_away_now(self):
        site = site_of("write z: [[a]]", "write a: ", "rename a > b", "away b")
        self.refuse_row(Away, site, "rename b > a")
        site.write("y", "")
        self.refuse_barred(0, site, "rename y > a")


class PartTest(SiteCase):
    def test_rest_section_and_sign(self):
        site = site_of("write a: 0\\n= P =\\n1\\n2\\n= q =\\n3", "part a #  P > b")
        self.assertEqual((site.text(0), site.text(1)), ("0\n= q =\n3", "1\n2"))
        self.assertEqual((site.entry("b"), site.part_sign(0, "p")), (("page", 1), "b"))
        self.assertEqual((site.lead("a", "p"), site.lead("a", "q")), (("page", 1, None, 1), ("page", 0, "q", 0)))

    def test_no_part(self):
        site = mixed()
        self.refuse_row(NoPart, site, "part a # q > f")
        self.refuse_row(NoPart, site, "part a # q > a")   # ahead of Taken
        self.refuse_row(NoPart, site, "part a # q > t")   # ahead of Barred
        self.refuse_row(NoPart, site, "part z # p > f")

    def test_place(self):
        site = mixed()
        self.refuse_row(Taken, site, "part a # p > z")
        self.refuse_row(Taken, site, "part a # p > a")
        self.refuse_barred(1, site, "part a # p > t")
        self.refuse_barred(1, site, "part a # p > v")
        site.part("a", "p", "s")
        self.assertEqual((site.entry("s"), site.text(4)), (("page", 4), "x"))

    def test_a_part_that_is_there_no_more(self):
        site = site_of("write a: = p =\\n1", "part a # p > b")
        self.refuse_row(NoPart, site, "part a # p > c")

    def test_the_same_part_twice_in_a_text(self):
        site = site_of("write a: = p =\\n1\\n= P =\\n2", "part a # p > b")
        self.assertEqual((site.text(0), site.text(1)), ("= P =\n2", "1"))
        self.assertIsNone(site.part_sign(0, "p"))
        self.assertEqual(site.lead("a", "p"), ("page", 0, "p", 0))
        site.part("a", "p", "c")
        self.assertEqual((site.text(0), site.text(2), site.part_sign(0, "p")), ("", "2", "c"))

    def test_a_part_that_is_the_whole_text(self):
        site = site_of("write a: = p =", "part a # p > b")
        self.assertEqual((site.text(0), site.text(1), site.stands(0)), ("", "", [1, 2]))
        site = site_of("write a: = p =\\n1\\n", "part a # p > b")
        self.assertEqual((site.text(0), site.text(1)), ("", "1\n"))

    def test_a_page_parted_twice(self):
        site = site_of("write a: = p =\\n1\\n= q =\\n2", "part a # q > b", "part a # p > c")
        self.assertEqual([site.text(number) for number in range(3)], ["", "2", "1"])
        self.assertEqual((site.part_sign(0, "p"), site.part_sign(0, "q")), ("c", "b"))

    def test_the_part_comes_to_be_again_and_is_parted_again(self):
        site = site_of("write a: = p =\\n1", "part a # p > b", "write a: = p =\\n2", "part a # p > c")
        self.assertEqual([site.part_sign(0, "p", at) for at in range(1, 5)], [None, "b", None, "c"])
        self.assertEqual([site.lead("a", "p", at) for at in range(1, 5)],
                         [("page", 0, "p", 0), ("page", 1, None, 1), ("page", 0, "p", 0), ("page", 2, None, 1)])


class JoinTest(SiteCase):
    def test_text_and_sign(self):
        site = site_of("write a: 1", "write b: 2", "join a > b")
        self.assertEqual((site.text(1), site.text(0)), ("2\n1", "1"))
        self.assertEqual((site.entry("a"), site.entry("b")), (("sign", "b", None), ("page", 1)))
        self.assertEqual(site.stands(1), [2, 3])

    def test_texts_without_a_sign(self):
        site = site_of("write a: ", "write b: ", "join a > b")
        self.assertEqual((site.text(1), site.stands(1)), ("\n", [2, 3]))

    def test_same(self):
        self.refuse_row(Same, mixed(), "join a > A")

    def test_clash_of_a_sign_and_a_part(self):
        site = site_of("write a: = p =\\n1", "write b: = p =\\n2", "part a # p > c")
        self.refuse_row(Clash, site, "join a > b")
        self.refuse_row(Clash, site, "join b > a")

    def test_clash_of_two_signs(self):
        site = site_of("write a: = p =\\n1", "write b: = p =\\n2", "part a # p > c", "part b # p > d")
        self.refuse_row(Clash, site, "join a > b")
        self.refuse_row(Clash, site, "join b > a")

    def test_unlike_parts_do_not_clash(self):
        for row, into in (("join a > b", 1), ("join b > a", 0)):
            site = site_of("write a: = p =\\n1\\n= r =", "write b: = q =\\n2\\n= r =", "part a # p > c",
                           "part b # q > d", row)
            self.assertEqual((site.part_sign(into, "p"), site.part_sign(into, "q")), ("c", "d"))
            self.assertEqual(site.lead("a", "p"), ("page", 2, None, 2 - (into == 0)))

    def test_signs_of_parts_come_over_and_stay(self):
        site = site_of("write a: = p =\\n1", "write b: 2", "part a # p > c", "join a > b")
        self.assertEqual((site.part_sign(0, "p"), site.part_sign(1, "p")), ("c", "c"))
        self.assertEqual(site.lead("a", "p"), ("page", 2, None, 2))
        self.assertEqual(site.way("a", "p"), ["a", "b", "c"])
        # Where the page that it came to gets the part, only that one's sign is gone.
        site.write("b", "= p =")
        self.assertEqual((site.part_sign(0, "p"), site.part_sign(1, "p")), ("c", None))
        self.assertEqual(site.lead("a", "p"), ("page", 1, "p", 1))

    def test_signs_of_the_page_joined_into_stay_its_own(self):
        site = site_of("write a: 1", "write b: = p =\\n2", "part b # p > c", "join a > b")
        self.assertEqual((site.part_sign(0, "p"), site.part_sign(1, "p")), (None, "c"))

    def test_parts_of_one_name_in_both_texts(self):
        site = site_of("write a: = p =\\n1", "write b: = p =\\n2", "join a > b")
        self.assertEqual(site.text(1), "= p =\n2\n= p =\n1")
        self.assertEqual(site.lead("a", "p"), ("page", 1, "p", 1))
        # The part is the first of both, that of the page joined into.
        site.part("b", "p", "c")
        self.assertEqual(site.text(2), "2")

    def test_too_long(self):
        site = site_of(f"write a: {'a' * 399}", f"write b: {'b' * 400}", f"write c: {'c' * 400}",
                       f"write d: {'d' * 400}")
        for name in "bcd":
            site.join(name, "a")
        self.assertEqual(len(site.text(0)), 399 + 3 * 401)
        site.write("e", "e" * 398)
        self.refuse_row(TooLong, site, "join a > e")
        site.write("e", "e" * 397)
        site.was(None).join("a", "e")
        site.join("e", "a")
        self.assertEqual(len(site.text(0)), 2000)
        site.write("f", "")
        self.refuse_row(TooLong, site, "join f > a")
        self.refuse_row(TooLong, site, "join a > f")

    def test_clash_is_ahead_of_too_long(self):
        site = site_of("write z: = p =", "part z # p > y", "write a: " + "a" * 400)
        for name in "bcde":
            site.write(name, "b" * 399)
            site.join(name, "a")
        self.assertEqual(len(site.text(2)), 2000)
        self.refuse_row(TooLong, site, "join z > a")
        site.write("a", "= p =")
        self.refuse_row(Clash, site, "join z > a")
        for name in "fghi":
            site.write(name, "b" * 400)
            site.join(name, "a")
        site.write("z", "z" * 400)
        self.refuse_row(Clash, site, "join z > a")


class AwayTest(SiteCase):
    def test_away_and_back(self):
        site = site_of("write a: x", "away A")
        self.assertEqual(site.entry("a"), ("away", 0))
        self.refuse_row(Away, site, "away a")
        site.bring_back(" a")
        self.assertEqual(site.entry("a"), ("page", 0))

    def test_not_away(self):
        site = mixed()
        for name in ("a", "s", "f", "t"):
            self.refuse_row(NotAway, site, f"back {name}")

    def test_lost_it_is_not_brought_back(self):
        site = site_of("write a: x", "away a", "write a: y")
        self.refuse_row(NotAway, site, "back a")

    def test_brought_back_whatever_bars_the_name(self):
        site = site_of("write a: [[a]]", "away a")
        self.assertEqual(site.bar("a"), 0)
        site.bring_back("a")
        self.assertEqual(site.standing(), [0])


class PutSignTest(SiteCase):
    def test_name_and_part(self):
        site = site_of("write a: = p =")
        for name, to, entry in (("b", "a", ("sign", "a", None)), ("c", "A#P", ("sign", "a", "p")),
                                ("d", " a # P ", ("sign", "a", "p")), ("e", "free", ("sign", "free", None)),
                                ("f", "Free-Name#r r", ("sign", "free_name", "r_r"))):
            site.put_sign(name, to)
            self.assertEqual(site.entry(name), entry)

    def test_to_that_is_none(self):
        site = mixed()
        for to in ("a##p", "a#p#q", "#p", "a#", "#", "", "a#p/q", "a#" + "p" * 13, "a|p", "a#p|q", None, 0, ["a"], b"a",
                   ("a", "p")):
            for name in ("f", "a", "s", "t"):
                self.refuse_deed(NoName, site, ("sign", name, to))

    def test_taken(self):
        site = mixed()
        self.refuse_row(Taken, site, "sign a > z")
        self.refuse_row(Taken, site, "sign a > a")

    def test_same(self):
        site = site_of("write z: [[b]]", "sign b > a", "sign c > a#p", "write d: [[c]]")
        # The very same sign is ahead of the bar.
        self.refuse_row(Same, site, "sign b > A")
        self.refuse_row(Same, site, "sign c > a#P")
        self.refuse_barred(0, site, "sign b > a#p")
        self.refuse_barred(1, site, "sign c > a")
        self.refuse_barred(1, site, "sign c > a#q")
        self.refuse_barred(1, site, "sign c > d#p")

    def test_signs_put_anew(self):
        site = site_of("sign b > a", "sign b > a#p", "sign b > a#q", "sign b > c#q", "sign b > c")
        self.assertEqual([site.entry("b", at) for at in range(1, 6)], [
            ("sign", "a", None), ("sign", "a", "p"), ("sign", "a", "q"), ("sign", "c", "q"), ("sign", "c", None)])

    def test_where_a_page_is_away(self):
        site = mixed()
        self.refuse_barred(1, site, "sign v > a")
        site.put_sign("w", "a")
        self.assertEqual((site.entry("w"), site.lead("w")), (("sign", "a", None), ("page", 0, None, 1)))

    def test_to_a_name_that_is_free(self):
        site = site_of("sign a > b", "write b: x")
        self.assertEqual(site.lead("a"), ("page", 0, None, 1))


class ValuesTest(SiteCase):
    def test_only_barred_bears_a_value(self):
        site = mixed()
        refused = [
            (NoName, ("away", "")), (NoText, ("write", "a", None)), (NoPage, ("away", "f")), (Sign, ("away", "s")),
            (Away, ("away", "w")), (Taken, ("sign", "a", "z")), (Same, ("rename", "a", "a")), (NotAway, ("back", "a")),
            (NoPart, ("part", "a", "q", "f")), (NoRule, ("family", "a", "a")),
        ]
        for error, deed in refused:
            self.assertEqual(vars(self.refuse_deed(error, site, deed)), {})
        self.assertEqual(vars(self.refuse_deed(Barred, site, ("write", "t", ""))), {"page": 1})


if __name__ == "__main__":
    unittest.main()
