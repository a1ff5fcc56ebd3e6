"""Points 16, 24 to 26 and 39: stands, what is seen, and sites as they were."""

import random
import unittest

from helper import SiteCase, all_told, drawn_deed, drawn_site, refusal, site_of
from signsleft.deeds import done, read_deed
from signsleft.errors import NoTime
from signsleft.judges import replay
from signsleft.sites import Site


class StandsTest(SiteCase):
    def assert_stands(self, site, number, stands):
        self.assertEqual(site.stands(number), [at for at, name, text in stands])
        for at in range(site.time() + 1):
            made = [(name, text) for since, name, text in stands if since <= at]
            self.assertEqual(site.stand(number, at), made[-1] if made else None)
        self.assertEqual(site.stand(number), stands[-1][1:])
        self.assertEqual(site.stand(number, None), stands[-1][1:])
        self.assertEqual((site.called(number), site.text(number)), stands[-1][1:])

    def test_each_deed_that_makes_one(self):
        site = site_of(
            "write a: = p =\\nx",        # 1
            "write a: [[z]]\\n= p =\\nx",  # 2
            "rename a > b",              # 3
            "part b # p > c",            # 4
            "write d: y",                # 5
            "join d > b",                # 6
            "rename c > e",              # 7
            "sign z > e",                # 8
            "renew b",                   # 9
            "family b > f",              # 10
        )
        self.assert_stands(site, 0, [
            (1, "a", "= p =\nx"), (2, "a", "[[z]]\n= p =\nx"), (3, "b", "[[z]]\n= p =\nx"), (4, "b", "[[z]]"),
            (6, "b", "[[z]]\ny"), (9, "b", "[[e|z]]\ny"), (10, "f", "[[e|z]]\ny"),
        ])
        self.assert_stands(site, 1, [(4, "c", "x"), (7, "e", "x")])
        # What is joined into another page gets no stand by that.
        self.assert_stands(site, 2, [(5, "d", "y")])

    def test_deeds_that_make_none(self):
        site = site_of("write a: x", "away a", "back a", "sign b > a", "sign c > b", "straight", "write d: ")
        self.assert_stands(site, 0, [(1, "a", "x")])
        self.assertEqual(site.time(), 7)

    def test_refused_deeds_make_none(self):
        site = site_of("write a: x", "write b: [[a]]")
        for row in ("write a: x", "rename a > b", "rename a > A", "part a # p > c", "join a > a", "back a", "renew b"):
            self.assertIsNotNone(refusal(done, site, read_deed(row)), row)
        self.assert_stands(site, 0, [(1, "a", "x")])
        self.assertEqual(site.time(), 2)


class StandingTest(SiteCase):
    def test_pages_that_stand(self):
        site = site_of("write a: ", "write b: ", "write c: ")
        self.assertEqual(site.standing(), [0, 1, 2])
        site.rename("a", "z")
        self.assertEqual(site.standing(), [0, 1, 2])
        self.assertIs(site.stands_now(0), True)

    def test_away_and_back(self):
        site = site_of("write a: x", "write b: ", "away a")
        self.assertEqual((site.standing(), site.stands_now(0), site.stands_now(1)), ([1], False, True))
        self.assertEqual((site.called(0), site.text(0), site.entry("a")), ("a", "x", ("away", 0)))
        site.bring_back("a")
        self.assertEqual((site.standing(), site.stands_now(0)), ([0, 1], True))

    def test_joined(self):
        site = site_of("write a: x", "write b: y", "rename a > c", "join c > b")
        self.assertEqual((site.standing(), site.stands_now(0)), ([1], False))
        self.assertEqual((site.called(0), site.text(0), site.stands(0)), ("c", "x", [1, 3]))
        # Its name used anew by another page is not its own again.
        site.write("c", "new")
        self.assertEqual((site.standing(), site.stands_now(0), site.entry("c")), ([1, 2], False, ("page", 2)))

    def test_lost(self):
        for row, entry in (("write a: new", ("page", 2)), ("sign a > b", ("sign", "b", None)),
                           ("rename b > a", ("page", 1)),
                           ("part b # p > a", ("page", 2))):
            site = site_of("write a: x", "write b: = p =", "away a", row)
            self.assertEqual(site.entry("a"), entry)
            self.assertIs(site.stands_now(0), False)
            self.assertNotIn(0, site.standing())
            self.assertEqual((site.called(0), site.text(0), site.stands(0)), ("a", "x", [1]))

    def test_a_lost_page_stays_lost(self):
        site = site_of("write a: x", "away a", "write a: y", "away a", "back a")
        self.assertEqual((site.standing(), site.stands_now(0), site.stands_now(1)), ([1], False, True))
        self.assertEqual([site.entry("a", at) for at in range(6)],
                         [None, ("page", 0), ("away", 0), ("page", 1), ("away", 1), ("page", 1)])


class ShowsTest(SiteCase):
    def test_seen_then_and_now(self):
        site = site_of(
            "write a: see [[b]], [[b#p|it]]",  # 1
            "write b: = p =\\nx",             # 2
            "rename b > c",                   # 3
            "part c # p > d",                 # 4
            "write a: [[ D]]",                # 5
            "away d",                         # 6
        )
        then = [
            None,
            [("text", "see "), ("name", "b", ("nothing", "b", None, 0)), ("text", ", "),
             ("name", "it", ("nothing", "b", "p", 0))],
            [("text", "see "), ("name", "b", ("page", 1, None, 0)), ("text", ", "),
             ("name", "it", ("page", 1, "p", 0))],
            [("text", "see "), ("name", "b", ("page", 1, None, 1)), ("text", ", "),
             ("name", "it", ("page", 1, "p", 1))],
            [("text", "see "), ("name", "b", ("page", 1, None, 1)), ("text", ", "),
             ("name", "it", ("page", 2, None, 2))],
            [("name", " D", ("page", 2, None, 0))],
            [("name", " D", ("away", 2, None, 0))],
        ]
        first = [("text", "see "), ("name", "b", ("page", 1, None, 1)), ("text", ", "),
                 ("name", "it", ("away", 2, None, 2))]
        now = [None, first, first, first, first, then[6], then[6]]
        self.assertEqual([site.shows(0, at) for at in range(7)], then)
        self.assertEqual([site.shows_now(0, at) for at in range(7)], now)
        for at in ((), (None,)):
            self.assertEqual(site.shows(0, *at), then[6])
            self.assertEqual(site.shows_now(0, *at), then[6])

    def test_not_made_yet(self):
        site = site_of("write a: ", "write b: x", "write c: ")
        self.assertEqual([site.shows(1, at) for at in range(4)], [None, None, [("text", "x")], [("text", "x")]])
        self.assertEqual([site.shows_now(1, at) for at in range(4)], [None, None, [("text", "x")], [("text", "x")]])
        self.assertEqual([site.stand(1, at) for at in range(4)], [None, None, ("b", "x"), ("b", "x")])
        self.assertEqual([site.shows(0, at) for at in range(4)], [None, [], [], []])

    def test_of_a_part_that_is_not_there(self):
        site = site_of("write a: [[a#p]]", "write a: [[a#p]]\\n= p =")
        self.assertEqual(site.shows(0, 1), [("name", "a#p", ("page", 0, "", 0))])
        self.assertEqual(site.shows_now(0, 1), [("name", "a#p", ("page", 0, "p", 0))])
        self.assertEqual(site.shows(0), [("name", "a#p", ("page", 0, "p", 0)), ("text", "\n= p =")])

    def test_of_pages_that_do_not_stand(self):
        site = site_of("write a: [[b]]", "write b: y", "write c: [[b]]", "away a", "join c > b")
        self.assertEqual(site.shows(0), [("name", "b", ("page", 1, None, 0))])
        self.assertEqual(site.shows(2), [("name", "b", ("page", 1, None, 0))])
        site.rename("b", "d")
        self.assertEqual(site.shows_now(0), [("name", "b", ("page", 1, None, 1))])
        self.assertEqual(site.shows_now(2, 3), [("name", "b", ("page", 1, None, 1))])
        self.assertEqual(site.shows(2, 3), [("name", "b", ("page", 1, None, 0))])


class WasTest(SiteCase):
    def test_times(self):
        site = site_of("write a: x", "rename a > b")
        for at in (-1, 3, True, False, "1", [1]):
            self.refuse(NoTime, site.was, at)
        self.assertEqual([site.was(at).time() for at in (0, 1, 2, None)], [0, 1, 2, 2])
        self.assertEqual(site.was().time(), 2)
        self.assertIs(type(site.was(1)), Site)

    def test_as_it_was_at_each_time(self):
        site = Site()
        told = [all_told(site)]
        for deed in drawn_site(random.Random(5), 40)[0].deeds():
            done(site, deed)
            told.append(all_told(site))
        for at, elder in enumerate(told):
            self.assertEqual(all_told(site.was(at)), elder)
            self.assertTrue(site.was(at).alike(replay(site.deeds()[:at])))
        self.assertEqual(all_told(site), told[-1])

    def test_deeds_by_turns(self):
        draw = random.Random(8)
        site = drawn_site(draw, 25)[0]
        for at in (0, 3, 12, 25):
            first = site.was(None)
            elder = first.was(at)
            rows = {"first": first.deeds(), "elder": first.deeds()[:at]}
            self.assertEqual(elder.deeds(), rows["elder"])
            for turn in range(60):
                for word, one, other in (("first", first, elder), ("elder", elder, first)):
                    deed = drawn_deed(draw, one)
                    before = all_told(other) if turn % 10 == 0 else None
                    if refusal(done, one, deed) is None:
                        rows[word].append(deed)
                    if before is not None:
                        self.assertEqual(all_told(other), before)
            for word, one in (("first", first), ("elder", elder)):
                self.assertEqual(all_told(one), all_told(replay(rows[word])))

    def test_page_numbers_go_on_from_then(self):
        site = site_of("write a: 1", "write b: 2", "write c: 3")
        elder = site.was(1)
        self.assertEqual((elder.made(), elder.standing()), (1, [0]))
        elder.write("c", "other")
        self.assertEqual((elder.entry("c"), site.entry("c")), (("page", 1), ("page", 2)))
        self.assertEqual((elder.text(1), site.text(1)), ("other", "2"))
        self.assertEqual((elder.deeds(), site.time()), ([("write", "a", "1"), ("write", "c", "other")], 3))


if __name__ == "__main__":
    unittest.main()
