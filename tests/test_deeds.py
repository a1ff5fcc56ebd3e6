"""Points 32 and 33: deeds as tuples and as rows."""

import re
import unittest

from helper import SiteCase, site_of
from signsleft.deeds import deed_row, done, read_deed
from signsleft.errors import Away, NoDeed, NoName, NoPage, NoRow, NoText, Same
from signsleft.sites import Site

PAIRS = (
    (("write", "a/b", "one: two\n> # \\ \\n"), "write a/b: one: two\\n> # \\\\ \\\\n"),
    (("write", "a", ""), "write a: "),
    (("rename", "a", "b_c"), "rename a > b_c"),
    (("part", "a", "p", "b"), "part a # p > b"),
    (("join", "a", "b"), "join a > b"),
    (("away", "a"), "away a"),
    (("back", "a"), "back a"),
    (("sign", "a", "b"), "sign a > b"),
    (("sign", "a", "b#p"), "sign a > b#p"),
    (("family", "a", "b"), "family a > b"),
    (("straight",), "straight"),
    (("renew", "a"), "renew a"),
)
ANY_WAY = (
    (("write", " A--B ", "x"), "write  A--B : x", ("write", "a_b", "x")),
    (("rename", "A ", " B/C_"), "rename A  >  B/C_", ("rename", "a", "b/c")),
    (("part", "A", " Big P", "-b"), "part A #  Big P > -b", ("part", "a", "big_p", "b")),
    (("join", "_a", "B"), "join _a > B", ("join", "a", "b")),
    (("away", " A "), "away  A ", ("away", "a")),
    (("back", "A"), "back A", ("back", "a")),
    (("sign", "A", " B #P_"), "sign A >  B #P_", ("sign", "a", "b#p")),
    (("family", "A ", "b-"), "family A  > b-", ("family", "a", "b")),
    (("renew", "A__b"), "renew A__b", ("renew", "a_b")),
)
NO_DEEDS = (
    (), ("write",), ("write", "a"), ("write", "a", "x", "y"), ("rename", "a"), ("rename", "a", "b", "c"),
    ("part", "a", "p"),
    ("part", "a", "p", "b", "c"), ("join", "a"), ("away",), ("away", "a", "b"), ("back",), ("sign", "a"),
    ("sign", "a", "b", "p"), ("family", "a"), ("straight", "a"), ("straight", None), ("renew",), ("renew", "a", "b"),
    ("Write", "a", "x"), ("take_away", "a"), ("", "a"), ("bring_back", "a"), ("put_sign", "a", "b"), (None, "a"), (3,),
    ([], "a"), ({}, "a", "b"), (("write",), "a", "x"), (b"away", "a"), ("aw", "a"), ("away ", "a"),
    ["write", "a", "x"], ["straight"], [], "straight", "away a", b"straight", None, 3, True, {"write": "a"}, object(),
)
BAD_NAMES = ("", " ", "a#b", "a:b", "a" * 25, "a/b/c/d/e", None, 3, True, ["a"], b"a")


class DoneTest(SiteCase):
    def test_each_deed(self):
        site = Site()
        deeds = [
            ("write", "A", "= p =\nx"), ("part", "a", "P", "b"), ("rename", "b", "C"), ("sign", "D", "b"),
            ("straight",),
            ("write", "e", "[[b]]"), ("renew", "e"), ("away", "e"), ("back", "e"), ("join", "c", "a"),
            ("family", "a", "f"),
        ]
        for at, deed in enumerate(deeds):
            self.assertIsNone(done(site, deed))
            self.assertEqual(site.time(), at + 1)
        self.assertEqual(site.deeds(), [
            ("write", "a", "= p =\nx"), ("part", "a", "p", "b"), ("rename", "b", "c"), ("sign", "d", "b"),
            ("straight",),
            ("write", "e", "[[b]]"), ("renew", "e"), ("away", "e"), ("back", "e"), ("join", "c", "a"),
            ("family", "a", "f"),
        ])
        self.assertEqual([site.entry(name) for name in "abcdef"], [
            ("sign", "f", None), ("sign", "c", None), ("sign", "a", None), ("sign", "c", None), ("page", 2),
            ("page", 0)])
        self.assertEqual((site.text(0), site.text(2)), ("\nx", "[[c|b]]"))

    def test_no_deed(self):
        site = site_of("write a: ", "sign b > c")
        for deed in NO_DEEDS:
            self.refuse_deed(NoDeed, site, deed)

    def test_refused_as_the_deed_is(self):
        site = site_of("write a: ")
        self.refuse_deed(NoName, site, ("write", None, None))
        self.refuse_deed(NoText, site, ("write", "a", None))
        self.refuse_deed(Same, site, ("write", "a", ""))
        self.refuse_deed(NoPage, site, ("away", "b"))
        self.refuse_deed(Same, site, ("straight",))


class DeedRowTest(SiteCase):
    def test_both_ways(self):
        for deed, row in PAIRS:
            self.assertEqual(deed_row(deed), row)
            self.assertEqual(read_deed(row), deed)

    def test_names_in_any_way(self):
        for deed, row, plain in ANY_WAY:
            self.assertEqual(deed_row(deed), deed_row(plain))
            self.assertEqual(read_deed(row), plain)
            self.assertEqual(read_deed(deed_row(plain)), plain)

    def test_no_deed(self):
        for deed in NO_DEEDS:
            self.refuse(NoDeed, deed_row, deed)

    def test_no_name(self):
        for bad in BAD_NAMES:
            for deed in (("write", bad, "x"), ("write", bad, None), ("write", bad, "x" * 401), ("rename", bad, "b"),
                         ("rename", "a", bad), ("part", bad, "p", "b"), ("part", "a", bad, "b"),
                         ("part", "a", "p", bad),
                         ("join", bad, "b"), ("join", "a", bad), ("away", bad), ("back", bad), ("sign", bad, "b"),
                         ("family", bad, "b"), ("family", "a", bad), ("renew", bad)):
                self.refuse(NoName, deed_row, deed)
        for bad in ("", "a#", "#p", "a#b#c", "a##b", "a#b/c", "a#" + "p" * 13, None, 3, ["a"]):
            self.refuse(NoName, deed_row, ("sign", "a", bad))
        for bad in ("p/q", "p" * 13):
            self.refuse(NoName, deed_row, ("part", "a", bad, "b"))

    def test_no_text(self):
        for bad in (None, 3, True, ["x"], b"x", "x" * 401, "\\" * 401):
            self.refuse(NoText, deed_row, ("write", "a", bad))
        self.assertEqual(deed_row(("write", "a", "\\" * 400)), "write a: " + "\\\\" * 400)
        self.assertEqual(deed_row(("write", "a", "\n" * 400)), "write a: " + "\\n" * 400)

    def test_what_a_site_would_refuse_has_a_row(self):
        self.assertEqual(deed_row(("family", "a", "A/b")), "family a > a/b")
        self.assertEqual(deed_row(("rename", "a", "A")), "rename a > a")


class ReadDeedTest(SiteCase):
    def refuse_rows(self, *rows):
        for row in rows:
            self.refuse(NoRow, read_deed, row)

    def test_texts(self):
        self.assertEqual(read_deed("write a:  x : y "), ("write", "a", " x : y "))
        self.assertEqual(read_deed("write a: > # [[b#c|d]]: "), ("write", "a", "> # [[b#c|d]]: "))
        self.assertEqual(read_deed("write a: \\\\n\\n\\\\\\n"), ("write", "a", "\\n\n\\\n"))
        self.assertEqual(read_deed("write a: straight"), ("write", "a", "straight"))
        self.assertEqual(read_deed("write rename: a > b"), ("write", "rename", "a > b"))

    def test_backslashes(self):
        self.refuse_rows("write a: \\", "write a: x\\", "write a: \\\\\\", "write a: \\t", "write a: \\N",
                         "write a: \\ n",
                         "write a: \\\\\\x", "write a: \\n\\")

    def test_line_ends(self):
        self.refuse_rows("write a: x\n", "write a: \n", "write a: x\ny", "write a\n: x", "\nwrite a: x", "straight\n",
                         "away a\n", "rename a > b\n", "rename a\n > b", "sign a > b\n", "part a # p\n > b",
                         "renew \na")

    def test_lengths(self):
        self.assertEqual(read_deed("write a: " + "x" * 400), ("write", "a", "x" * 400))
        self.assertEqual(read_deed("write a: " + "\\n" * 400), ("write", "a", "\n" * 400))
        self.refuse_rows("write a: " + "x" * 401, "write a: " + "\\n" * 401, "write a: " + "\\\\" * 401)

    def test_what_is_no_text(self):
        self.refuse_rows(None, 3, True, b"straight", ["straight"], ("straight",), object())

    def test_marks(self):
        self.refuse_rows(
            "", " ", "write", "write a", "write a:", "write a:x", "write : x", "write: x", "writea: x", "Write a: x",
            " write a: x", "rename a", "rename a >", "rename a > ", "rename > b", "rename  > b", "rename a>b",
            "rename a> b",
            "rename a >b", "rename a > b > c", "rename a >> b", "rename a b", "part a # p", "part a > b",
            "part a > b # p",
            "part a# p > b", "part a #p > b", "part a # p> b", "part a # p >b", "part a # # p > b", "part a # p > ",
            "part  # p > b", "part a #  > b", "part a # p/q > b", "part a # " + "p" * 13 + " > b", "join a",
            "join a > ",
            "away", "away ", "awaya", "aways a", "back", "back ", "sign a > ", "sign a > #p", "sign a > b#",
            "sign a > b##p",
            "sign a > b#p#q", "sign a#p > b", "family a", "family a > ", "straight ", " straight", "straighta",
            "straight a",
            "Straight", "renew", "renew ", "renew a > b", "away a, b", "take_away a", "lead a", "time", "write a# : x",
            "away " + "a" * 25, "away a/b/c/d/e",
        )

    def test_one_sign_more_or_fewer_at_each_place(self):
        # Whatever is still read is written otherwise only in a name's or a text's own signs.
        for deed, row in PAIRS:
            for at in range(len(row) + 1):
                for sign in ("!", ">", "#", ":", "\n", "\\", "/", " ", "q"):
                    self.read_or_refused(row[:at] + sign + row[at:])
                self.read_or_refused(row[:at] + row[at + 1:])

    def read_or_refused(self, row):
        plain = plainly_read(row)
        if plain is None:
            self.refuse(NoRow, read_deed, row)
        else:
            self.assertEqual(read_deed(row), plain, row)
            self.assertEqual(read_deed(deed_row(plain)), plain, row)


def plainly_read(row):
    """What point 33 says, by patterns: the deed, or None."""
    name, to = r"([A-Za-z0-9 _/-]+)", r"([A-Za-z0-9 _/-]+(?:#[A-Za-z0-9 _-]+)?)"
    forms = [rf"(write) {name}: ((?:[^\\\n]|\\n|\\\\)*)", rf"(part) {name} # {name} > {name}", rf"(sign) {name} > {to}",
             rf"(rename|join|family) {name} > {name}", rf"(away|back|renew) {name}", r"(straight)"]
    found = [match for form in forms if (match := re.fullmatch(form, row))]
    if not found:
        return None
    groups = list(found[0].groups())
    told = [groups[0]]
    for at, group in enumerate(groups[1:], start=1):
        if groups[0] == "write" and at == 2:
            group = re.sub(r"\\(.)", lambda match: "\n" if match[1] == "n" else "\\", group)
            if len(group) > 400:
                return None
            told.append(group)
            continue
        pieces = [plain_name(piece) for piece in group.split("#")]
        if None in pieces or any("/" in piece or len(piece) > 12 for piece in pieces[1:]):
            return None
        if groups[0] == "part" and at == 2 and ("/" in pieces[0] or len(pieces[0]) > 12):
            return None
        told.append("#".join(pieces))
    return tuple(told)


def plain_name(writing):
    segments = [re.sub(r"[ _-]+", "_", segment.lower()).strip("_") for segment in writing.split("/")]
    name = "/".join(segments)
    return name if "" not in segments and len(segments) <= 4 and len(name) <= 24 else None


class RowsAndDeedsTest(SiteCase):
    def test_rows_are_done_as_their_deeds(self):
        site = site_of(*[row for deed, row in PAIRS if deed[0] in ("write",)])
        self.assertEqual(site.text(0), "one: two\n> # \\ \\n")
        self.refuse_row(Away, site_of("write a: ", "away a"), "away a")


if __name__ == "__main__":
    unittest.main()
