"""Points 34, 35, 42 and 43: rows of deeds, sites held against one another, written and read."""

import random
import unittest

from helper import SiteCase, all_told, drawn_deed, drawn_site, refusal, site_of
from signsleft.deeds import deed_row, done, read_deed
from signsleft.errors import NoRow, NoTime, Stopped
from signsleft.judges import differ, judged, read_site, replay, written
from signsleft.sites import Site


def deeds_of(*rows):
    return [read_deed(row) for row in rows]


def judged_rows(site, *rows):
    return judged(site, deeds_of(*rows))


class JudgedTest(SiteCase):
    def test_goes(self):
        site = site_of("write a: [[b]]", "write b: ", "write c: x")
        self.assertEqual(judged(site, []), ("goes", []))
        self.assertEqual(judged_rows(site, "write c: y"), ("goes", [2]))
        self.assertEqual(judged_rows(site, "write d: "), ("goes", [3]))
        # What is renamed has another name; what bears its name shows another lead.
        self.assertEqual(judged_rows(site, "rename b > d"), ("goes", [0, 1]))
        self.assertEqual(judged_rows(site, "away b"), ("goes", [0, 1]))
        self.assertEqual(judged_rows(site, "away c"), ("goes", [2]))
        self.assertEqual(judged_rows(site, "join c > b"), ("goes", [1, 2]))
        self.assertEqual(judged_rows(site, "sign d > a", "sign d > b"), ("goes", []))

    def test_held_against_what_was_ahead_of_the_row(self):
        site = site_of("write a: [[b]]", "write b: ")
        self.assertEqual(judged_rows(site, "away b", "back b"), ("goes", []))
        self.assertEqual(judged_rows(site, "write a: ", "write a: [[b]]"), ("goes", []))
        self.assertEqual(judged_rows(site, "rename b > c", "rename c > b"), ("goes", []))
        self.assertEqual(judged_rows(site, "write c: ", "away c"), ("goes", [2]))

    def test_only_name_standing_and_showing_count(self):
        # Another text that shows the same leaves a page as it was.
        site = site_of("write a: [[b]]", "write b: [[z]]\\n= p =")
        self.assertEqual(judged_rows(site, "write a: [[b|b]]"), ("goes", []))
        self.assertEqual(judged_rows(site, "write a: [[b|B]]"), ("goes", [0]))
        self.assertEqual(judged_rows(site, "write a: [[b#p|b]]"), ("goes", [0]))

    def test_pages_that_do_not_stand_are_changed_by_what_they_show(self):
        site = site_of("write a: [[b]]", "write b: ", "away a")
        self.assertEqual(judged_rows(site, "rename b > c"), ("goes", [0, 1]))

    def test_a_lost_page_is_not_changed_by_being_lost(self):
        site = site_of("write a: x", "away a")
        self.assertEqual(judged_rows(site, "write a: y"), ("goes", [1]))

    def test_more_signs_are_another_showing(self):
        site = site_of("write a: [[s]]", "sign s > t", "sign t > b", "write b: ")
        self.assertEqual(judged_rows(site, "straight"), ("goes", [0]))

    def test_each_word(self):
        site = site_of("write a: = p =\\n", "sign s > a", "write w: ", "away w", "write n: [[s]]", "part a # p > x",
                       "write q: = p =\\n")
        stops = (
            ("nodeed", ("writes", "a", "x")), ("nodeed", ["straight"]), ("nodeed", None), ("noname", ("away", "")),
            ("notext", ("write", "a", None)), ("norule", ("family", "a", "a/b")), ("nopage", ("away", "free")),
            ("sign", ("away", "s")), ("away", ("away", "w")), ("notaway", ("back", "a")),
            ("nopart", ("part", "a", "p", "f")),
            ("taken", ("rename", "a", "n")), ("barred", ("write", "s", "x")), ("same", ("straight",)),
            ("clash", ("join", "q", "a")), ("ring", ("sign", "f", "f")),
        )
        for word, deed in stops:
            self.assertEqual(judged(site, [deed]), ("stops", 0, word))
            self.assertEqual(judged(site, [("write", "new", ""), deed, ("write", "z", "")]), ("stops", 1, word))
            self.assertEqual(refusal(done, site, deed)[0].lower(), word)

    def test_too_long(self):
        deeds = [("write", "a", "x" * 400)]
        for name in "bcde":
            deeds += [("write", name, "x" * 400), ("join", name, "a")]
        self.assertEqual(judged(Site(), deeds), ("stops", 8, "toolong"))
        deeds[7] = ("write", "e", "x" * 396)
        self.assertEqual(judged(Site(), deeds), ("goes", [0, 1, 2, 3, 4]))

    def test_the_first_deed_that_is_refused(self):
        site = site_of("write a: ")
        rows = ("write b: ", "rename a > c", "away a", "straight")
        self.assertEqual(judged_rows(site, *rows), ("stops", 2, "sign"))
        self.assertEqual(judged(site, [("away", "a"), ("back", "a"), 7]), ("stops", 2, "nodeed"))

    def test_the_site_stays_as_it_is(self):
        draw = random.Random(21)
        site = drawn_site(draw, 30)[0]
        for turn in range(8):
            before = all_told(site)
            behind = site.was(None)
            deeds = []
            while len(deeds) < 6:
                deed = drawn_deed(draw, behind)
                if refusal(done, behind, deed) is None:
                    deeds.append(deed)
            self.assertEqual(judged(site, deeds)[0], "goes")
            self.assertEqual(judged(site, deeds + [("away", "never")])[:2], ("stops", 6))
            self.assertEqual(all_told(site), before)

    def test_as_it_does_and_changes(self):
        words = {}
        for seed in range(60):
            draw = random.Random(seed)
            site = drawn_site(draw, 25)[0]
            behind = site.was(None)
            deeds, stop = [], None
            while len(deeds) < 5 and stop is None:
                deeds.append(drawn_deed(draw, behind))
                refused = refusal(done, behind, deeds[-1])
                if refused is not None and draw.randrange(12):
                    deeds.pop()
                elif refused is not None:
                    stop = ("stops", len(deeds) - 1, refused[0].lower())
            told = judged(site, deeds)
            words[told[0]] = words.get(told[0], 0) + 1
            self.assertEqual(told, stop or ("goes", changed_plainly(site, behind)))
        self.assertGreater(min(words.values()), 10)


def changed_plainly(site, behind):
    changed = []
    for number in range(behind.made()):
        told = [(one.called(number), number in one.standing(), one.shows_now(number, one.time()))
                for one in (site, behind) if number < one.made()]
        if len(told) == 1 or told[0] != told[1]:
            changed.append(number)
    return changed


class ReplayTest(SiteCase):
    def test_a_new_site(self):
        deeds = deeds_of("write a: x", "rename a > b")
        site = replay(deeds)
        self.assertIs(type(site), Site)
        self.assertEqual((site.deeds(), site.time(), site.called(0)), (deeds, 2, "b"))
        self.assertTrue(replay([]).alike(Site()))
        other = replay(deeds)
        other.write("c", "")
        self.assertEqual(site.time(), 2)

    def test_stopped(self):
        for at, deeds in ((0, [None]), (0, deeds_of("away a", "away b")), (1, deeds_of("write a: ", "write a: ")),
                          (2, deeds_of("write a: ", "away a") + [("away",)]), (1, [("write", "a", ""), 3])):
            self.assertEqual(vars(self.refuse(Stopped, replay, deeds)), {"at": at})

    def test_of_what_a_site_tells(self):
        for seed in range(10):
            site = drawn_site(random.Random(seed), 50)[0]
            other = replay(site.deeds())
            self.assertTrue(site.alike(other) and other.alike(site))
            self.assertEqual(all_told(other), all_told(site))


class AlikeTest(SiteCase):
    def assert_unlike(self, rows, others):
        site, other = site_of(*rows), site_of(*others)
        self.assertIs(site.alike(other), False, (rows, others))
        self.assertIs(other.alike(site), False, (rows, others))

    def assert_alike(self, rows, others):
        site, other = site_of(*rows), site_of(*others)
        self.assertIs(site.alike(other), True, (rows, others))
        self.assertIs(other.alike(site), True, (rows, others))

    def test_alike(self):
        self.assert_alike([], [])
        self.assert_alike(["write a: x"], ["write A: x"])
        # Deeds of other words that come to the same.
        self.assert_alike(["write a: x", "rename a > b"], ["write a: x", "family a > b"])
        self.assert_alike(["sign a > b", "sign c > a", "sign c > b"], ["sign a > b", "sign c > a", "straight"])
        self.assert_alike(["write a: ", "rename a > b", "write b: [[a]]", "write b: [[b|a]]"],
                          ["write a: ", "rename a > b", "write b: [[a]]", "renew b"])
        site = site_of("write a: x")
        self.assertIs(site.alike(site), True)

    def test_unlike_in_one_thing(self):
        self.assert_unlike([], ["write a: x"])
        self.assert_unlike(["write a: x"], ["write a: x", "away a"])            # time
        self.assert_unlike(["write a: x"], ["write b: x"])                      # entries and names
        self.assert_unlike(["write a: x"], ["write a: y"])                      # texts
        self.assert_unlike(["write a: "], ["sign a > b"])                       # pages
        self.assert_unlike(["sign a > b"], ["sign a > b#p"])                    # parts of signs
        self.assert_unlike(["sign a > b"], ["sign a > c"])
        self.assert_unlike(["write a: ", "write b: "], ["write b: ", "write a: "])  # numbers
        self.assert_unlike(["write a: ", "away a"], ["write a: ", "write b: "])

    def test_unlike_in_the_signs_of_parts(self):
        # Both come to the same entries and last stands; but the one text had the part amid, so its sign is gone.
        rows = ["write a: = p =\\n", "part a # p > b", "write a: = p =", "write a: x"]
        others = ["write a: = p =\\n", "part a # p > b", "write a: = q =", "write a: x"]
        site, other = site_of(*rows), site_of(*others)
        self.assertEqual((site.part_sign(0, "p"), other.part_sign(0, "p")), (None, "b"))
        self.assertIs(site.alike(other), False)

    def test_unlike_at_an_elder_time_alone(self):
        self.assert_unlike(["write a: x", "write a: y"], ["write a: z", "write a: y"])
        self.assert_unlike(["sign a > b", "sign a > c"], ["sign a > d", "sign a > c"])
        self.assert_unlike(["write a: ", "write b: ", "away a", "back a"],
                           ["write a: ", "write b: ", "away b", "back b"])
        self.assert_unlike(["write a: ", "write b: ", "away a", "away b"],
                           ["write a: ", "write b: ", "away b", "away a"])
        self.assert_unlike(["write a: x", "write a: y", "write a: z"], ["write a: x", "write a: z", "write a: z2"])

    def test_sites_as_they_were(self):
        site = site_of("write a: ", "away a", "back a")
        self.assertTrue(site.was(3).alike(site))
        self.assertFalse(site.was(1).alike(site))
        self.assertFalse(site.alike(site.was(1)))
        self.assertTrue(site.was(1).alike(site_of("write a: ")))


class DifferTest(SiteCase):
    def test_each_end(self):
        here = site_of("write a: ", "write b: ", "sign c > a", "write d: ", "away d", "sign e > free")
        there = site_of("write b: ", "write a: ", "sign c > b", "write d: ", "sign f > e")
        self.assertEqual(differ(here, there), [
            ("c", ("page", "a"), ("page", "b")), ("d", ("away", "d"), ("page", "d")),
            ("e", ("nothing", "free"), ("nothing", "e")), ("f", ("nothing", "f"), ("nothing", "e")),
        ])
        self.assertEqual(differ(there, here), [(name, left, right) for name, right, left in differ(here, there)])

    def test_signs_numbers_and_parts_are_left_out(self):
        here = site_of("write a: = p =", "sign b > a", "sign c > b")
        there = site_of("write z: ", "write a: ", "away z", "sign b > a#p", "sign c > a")
        self.assertEqual(differ(here, there), [("z", ("nothing", "z"), ("away", "z"))])

    def test_a_page_by_its_name_there(self):
        here = site_of("write a: ", "rename a > b")
        there = site_of("write a: ")
        self.assertEqual(differ(here, there), [("a", ("page", "b"), ("page", "a")),
                                               ("b", ("page", "b"), ("nothing", "b"))])

    def test_none(self):
        site = site_of("write a: ", "sign b > a")
        self.assertEqual(differ(site, site), [])
        self.assertEqual(differ(Site(), Site()), [])
        # Texts alone, and names that only texts bear, do not count.
        self.assertEqual(differ(site, site_of("write a: [[z]]", "sign b > a")), [])

    def test_against_the_site_as_it_was(self):
        site = site_of("write a: ", "write b: ", "join a > b", "away b")
        self.assertEqual(differ(site, site.was(2)), [
            ("a", ("away", "b"), ("page", "a")), ("b", ("away", "b"), ("page", "b"))])

    def test_drawn(self):
        for seed in range(10):
            site = drawn_site(random.Random(seed), 40)[0]
            elder = site.was(seed * 4)
            told = []
            for name in site.names_known():
                ends = []
                for one in (site, elder):
                    kind, end = one.lead(name)[:2]
                    ends.append((kind, end if kind == "nothing" else one.called(end)))
                if ends[0] != ends[1]:
                    told.append((name, *ends))
            self.assertEqual(differ(site, elder), told)


class WrittenTest(SiteCase):
    def test_rows(self):
        site = site_of("write A: x\\ny\\\\", "rename a > b", "sign c >  B # P")
        self.assertEqual(written(site), "write a: x\\ny\\\\\nrename a > b\nsign c > b#p\n")
        self.assertEqual(written(Site()), "")

    def test_written_and_read(self):
        for seed in range(10):
            site = drawn_site(random.Random(seed), 50)[0]
            other = read_site(written(site))
            self.assertIs(type(other), Site)
            self.assertEqual(other.deeds(), site.deeds())
            self.assertTrue(other.alike(site))
            self.assertEqual(written(other), written(site))
            self.assertEqual(written(site), "".join(deed_row(deed) + "\n" for deed in site.deeds()))
            for at in (0, 7, 50):
                self.assertEqual(site.was(at).deeds(), site.deeds()[:at])
                self.assertTrue(read_site(written(site.was(at))).alike(site.was(at)))

    def test_no_row(self):
        for text in ("x", "\n", "write a: x", "write a: x\nx", "write a: x\n\n", "\nwrite a: x\n",
                     "write a: x\nstraigh\n",
                     " ", "write a: x\n ", None, 3, True, b"", ["write a: x\n"], ["write a: x"]):
            self.refuse(NoRow, read_site, text)
        self.assertTrue(read_site("").alike(Site()))

    def test_no_row_is_ahead_of_stopped(self):
        self.refuse(NoRow, read_site, "away a\nno row\n")
        self.refuse(NoRow, read_site, "away a\naway b")
        self.assertEqual(self.refuse(Stopped, read_site, "away a\naway b\n").at, 0)
        self.assertEqual(self.refuse(Stopped, read_site, "write a: \naway a\naway a\n").at, 2)

    def test_names_in_any_way(self):
        site = read_site("write  A-b: x\naway A b\n")
        self.assertEqual(site.deeds(), [("write", "a_b", "x"), ("away", "a_b")])

    def test_deeds_of_a_site_as_it_was(self):
        site = site_of("write a: ", "away a", "back a")
        self.assertEqual(site.was(2).deeds(), [("write", "a", ""), ("away", "a")])
        self.assertEqual(site.was(0).deeds(), [])
        self.refuse(NoTime, site.was, 4)


if __name__ == "__main__":
    unittest.main()
