"""Point 36: a desk."""

import random
import unittest

from helper import SiteCase, all_told, drawn_site
from signsleft.deeds import deed_row
from signsleft.desk import Desk
from signsleft.errors import Away, Barred, NoPage, NoPart, NoRow, NotAway, NoTime, Ring, Same, Sign, Taken
from signsleft.sites import Site


def desk_of(*rows):
    desk = Desk()
    for row in rows:
        assert desk.say(row) == "ok"
    return desk


class DeskCase(SiteCase):
    def answers(self, desk, *pairs):
        for row, answer in pairs:
            before = desk.site.time()
            self.assertEqual(desk.say(row), answer, row)
            self.assertEqual(desk.site.time(), before)

    def refuse_said(self, error, desk, *rows):
        before = all_told(desk.site)
        for row in rows:
            self.refuse(error, desk.say, row)
        self.assertEqual(all_told(desk.site), before)


class DeedsTest(DeskCase):
    def test_each_deed(self):
        desk = Desk()
        self.assertIs(type(desk.site), Site)
        self.assertEqual(desk.site.time(), 0)
        rows = ("write A: = p =\\nx", "part a # P > b", "rename b > C", "sign D > b", "straight", "write e: [[b]]",
                "renew e",
                "away e", "back e", "join c > a", "family a > f")
        for at, row in enumerate(rows):
            self.assertEqual(desk.say(row), "ok")
            self.assertEqual(desk.say("time"), str(at + 1))
        self.assertEqual(desk.say("pages"), "f,e")

    def test_refused_as_the_deed_is(self):
        desk = desk_of("write a: x", "sign s > a", "write w: ", "away w", "write n: [[s]]")
        for error, row in ((Same, "write a: x"), (Taken, "rename a > n"), (Sign, "away s"), (Away, "away w"),
                           (NoPage, "away z"), (NotAway, "back a"), (NoPart, "part a # p > z"), (Ring, "sign z > z")):
            self.refuse_said(error, desk, row)
        self.assertEqual(self.refuse(Barred, desk.say, "write s: x").page, 2)

    def test_desks_have_sites_of_their_own(self):
        desk, other = desk_of("write a: "), Desk()
        self.assertEqual((desk.say("time"), other.say("time")), ("1", "0"))
        other.site = desk.site.was(1)
        self.assertEqual((other.say("pages"), other.say("away a"), desk.say("pages")), ("a", "ok", "a"))


class LeadTest(DeskCase):
    def test_each_end(self):
        desk = desk_of("write a: = p =\\nx", "rename a > b", "sign s > a#p", "sign f > free#q", "write w: = p =",
                       "sign v > w",
                       "away w")
        self.answers(
            desk, ("lead b", "page b 0"), ("lead  A", "page b 1"), ("lead a#P", "page b#p 1"),
            ("lead b # p ", "page b#p 0"),
            ("lead b#q", "page b# 0"), ("lead s", "page b#p 2"), ("lead s#q", "page b# 2"),
            ("lead f", "nothing free 1"),
            ("lead f#p", "nothing free 1"), ("lead free", "nothing free 0"),
            ("lead Other-one#p", "nothing other_one 0"),
            ("lead w", "away w 0"), ("lead w#p", "away w 0"), ("lead v#q", "away w 1"),
        )

    def test_a_part_that_has_a_sign(self):
        desk = desk_of("write a: = p =\\nx", "part a # p > b")
        self.answers(desk, ("lead a#p", "page b 1"), ("lead a#q", "page a# 0"), ("lead a", "page a 0"))

    def test_rows_that_are_none(self):
        self.refuse_said(NoRow, desk_of("write a: "), "lead", "lead ", "leada", "lead a#", "lead #p", "lead a#p#q",
                         "lead a##p",
                         "lead a#p/q", "lead a#" + "p" * 13, "lead !", "lead a//b", "lead " + "a" * 25, "lead a\n",
                         " lead a", "Lead a", "lead a > b", "lead a|b")


class ShowTest(DeskCase):
    def test_show(self):
        desk = desk_of("write a: see [[b]] or [[ B#p|it]]\\n[[c#q]]{x: y}", "write b: = p =", "rename b > d")
        self.answers(desk, ("show a", "see {b: page d 1} or {it: page d#p 1}\n{c#q: nothing c 0}{x: y}"),
                     ("show  A ", "see {b: page d 1} or {it: page d#p 1}\n{c#q: nothing c 0}{x: y}"),
                     ("show d", "= p ="))
        desk.say("away d")
        desk.say("write c: ")
        self.answers(desk, ("show a", "see {b: away d 1} or {it: away d 1}\n{c#q: page c# 0}{x: y}"), ("show c", ""))

    def test_then(self):
        desk = desk_of("write z: ", "write a: [[b]]", "write b: ", "rename b > c", "write a: [[c]]!", "rename a > e",
                       "rename c > d")
        # The names that pages have now, but led as they were led then.
        self.answers(desk, ("then 0 e", "none"), ("then 1 e", "none"), ("then 2 e", "{b: nothing b 0}"),
                     ("then 3 e", "{b: page d 0}"), ("then 4 e", "{b: page d 1}"), ("then 5 e", "{c: page d 0}!"),
                     ("then 7 e", "{c: page d 1}!"), ("then 7  E_", "{c: page d 1}!"), ("then 1 z", ""))

    def test_then_with_a_name_away(self):
        desk = desk_of("write a: [[b]]", "write b: ", "away b", "rename a > 12", "back b", "rename b > c")
        self.answers(desk, ("then 3 12", "{b: away c 0}"), ("then 5 12", "{b: page c 0}"))

    def test_page_at_the_name_ahead_of_the_time(self):
        desk = desk_of("write a: ", "sign s > a", "write w: ", "away w")
        for word in ("show", "backs", "names", "then 0", "then 4", "then 5", "then 999999999"):
            self.refuse_said(NoPage, desk, f"{word} free")
            self.refuse_said(Sign, desk, f"{word} s")
            self.refuse_said(Away, desk, f"{word} w")
        self.refuse_said(NoTime, desk, "then 5 a", "then 999999999 a")
        self.assertEqual(desk.say("then 4 a"), "")

    def test_times_that_are_none(self):
        desk = desk_of("write a: ", "write 0: ")
        self.refuse_said(NoRow, desk, "then a", "then 1", "then 1 ", "then  1 a", "then 01 a", "then 00 a", "then -1 a",
                         "then +1 a", "then 1. a", "then 1234567890 a", "then 0000000001 a", "then x a", "then",
                         "then ",
                         "then 1a", "then 1_0 a", "then 1\n a", "then 1 a\n", "then 1 !", "then 9 !", "then 01 !")
        self.assertEqual(desk.say("then 2 0"), "")

    def test_rows_that_are_none(self):
        self.refuse_said(NoRow, desk_of("write a: "), "show", "show ", "show a#p", "show a\n", "show !", "shows a",
                         "Show a",
                         "show a|b", "show")


class ListsTest(DeskCase):
    def test_backs(self):
        desk = desk_of("write z: [[a]]", "write a: [[a]]", "write b: [[a#p]] [[z]]", "write c/d: ")
        self.answers(desk, ("backs a", "z,a,b"), ("backs Z", "b"), ("backs b", "none"), ("backs c/d", "none"))
        desk.say("rename z > y")
        self.answers(desk, ("backs a", "y,a,b"))

    def test_nobody_and_pages(self):
        self.answers(Desk(), ("nobody", "none"), ("pages", "none"), ("time", "0"), ("tree", "none"))
        desk = desk_of("write z: [[a]]", "write a: ", "write b: [[b]]")
        self.answers(desk, ("nobody", "z,b"), ("pages", "z,a,b"), ("time", "3"))
        desk.say("away z")
        self.answers(desk, ("nobody", "a,b"), ("pages", "a,b"))
        desk.say("write a: [[b]]")
        desk.say("write b: [[a]]")
        self.answers(desk, ("nobody", "none"))

    def test_bars(self):
        desk = desk_of("write a: [[s]] [[a]]", "sign s > t", "write b: [[c]]", "rename a > d")
        self.answers(desk, ("bars s", "d"), ("bars  S-", "d"), ("bars t", "none"), ("bars c", "none"),
                     ("bars d", "none"),
                     ("bars a", "d"), ("bars free", "none"))
        desk.say("away d")
        self.answers(desk, ("bars s", "d"), ("bars d", "d"))
        self.refuse_said(NoRow, desk, "bars", "bars ", "bars !", "bars s#p", "bar s")

    def test_tree(self):
        desk = desk_of("write b/x/y: ", "write a: ", "write b/x: ")
        self.answers(desk, ("tree", "a; b; /x; //y"))

    def test_names(self):
        desk = desk_of("write m: = p =", "rename m > b", "sign a > m#p", "write c: ")
        self.answers(desk, ("names b", "a,b,m"), ("names C", "c"))
        self.refuse_said(Sign, desk, "names a")
        self.refuse_said(NoRow, desk, "names", "names ", "names !", "name b", "names b#p")

    def test_rows_that_are_none(self):
        desk = desk_of("write a: ")
        self.refuse_said(NoRow, desk, "nobody ", "pages ", "time ", "tree ", " time", "Time", "nobody a", "pages a",
                         "time 1",
                         "tree a", "tree\n", "time\n", "", " ", "ok", "none", "loose", "write", "write !: x",
                         "away a//b",
                         "write a: \\x", "part a # p/q > b", "sign a > b#", "write b: " + "x" * 401, "backs a#p",
                         "backs",
                         None, 3, True, b"time", ["time"], ("straight",), object())


class DrawnTest(DeskCase):
    def test_rows_said_come_to_the_site_of_their_deeds(self):
        for seed in range(5):
            site = drawn_site(random.Random(seed), 40)[0]
            desk = desk_of(*[deed_row(deed) for deed in site.deeds()])
            self.assertTrue(desk.site.alike(site))
            self.assertEqual(desk.site.deeds(), site.deeds())
            called = [site.called(number) for number in site.standing()]
            self.assertEqual(desk.say("pages"), ",".join(called) or "none")
            for number, name in zip(site.standing(), called):
                self.assertEqual(desk.say(f"show {name}"), desk.say(f"then {site.time()} {name}"))
                backs = [site.called(one) for one in site.backs(number)]
                self.assertEqual(desk.say(f"backs {name}"), ",".join(backs) or "none")
                self.assertEqual(desk.say(f"names {name}"), ",".join(site.names_to(number)))


if __name__ == "__main__":
    unittest.main()
