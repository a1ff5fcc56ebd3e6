"""Points 8 to 11: the names that texts bear, and their parts."""

import itertools
import re
import unittest

from signsleft.errors import NoName, NoPart
from signsleft.names import name_of, part_of
from signsleft.texts import cut, named, parts_of, pieces

BRACKETS = re.compile(r"\[\[([A-Za-z0-9 _/-]+)(#[A-Za-z0-9 _-]+)?(\|[^\[\]|\n]+)?\]\]")
NO_PARTS = ("", " ", "_-", "a/b", "a#b", "a=b", "a" * 13, "a\n", None, 3, True, ["a"], b"a")


def plain_pieces(text):
    """What points 8 and 9 say, sign by sign and by a pattern."""
    told = []
    at = 0
    while at < len(text):
        found = plain_name_at(text, at)
        if found is not None:
            told.append(found[0])
            at = found[1]
        else:
            if told and told[-1][0] == "text":
                told[-1] = ("text", told[-1][1] + text[at])
            else:
                told.append(("text", text[at]))
            at += 1
    return told


def plain_name_at(text, at):
    match = BRACKETS.match(text, at)
    if match is None:
        return None
    try:
        name = name_of(match[1])
        part = part_of(match[2][1:]) if match[2] else None
    except NoName:
        return None
    word = match[3][1:] if match[3] else match[0][2:-2]
    return ("name", word, name, part), match.end()


def plain_cut(text, part):
    """What point 10 says, row by row: (parts, rest, section); the last two None where there is no such part."""
    parts, rest, section = [], [], None
    inside = False
    for row in text.split("\n"):
        match = re.fullmatch(r"= (.*) =", row)
        head = None
        if match is not None:
            try:
                head = part_of(match[1])
            except NoName:
                head = None
        if head is not None and head not in parts:
            parts.append(head)
        if head is not None and head == part and section is None:
            section = []
            inside = True
        elif head is not None or not inside:
            inside = False
            rest.append(row)
        else:
            section.append(row)
    if section is None:
        return parts, None, None
    return parts, "\n".join(rest), "\n".join(section)


class PiecesCase(unittest.TestCase):
    def assert_plain(self, text):
        self.assertEqual(pieces(text), [("text", text)] if text else [], repr(text))
        self.assertEqual(named(text), [], repr(text))

    def assert_borne(self, text, word, name, part):
        self.assertEqual(pieces(text), [("name", word, name, part)], repr(text))


class BorneTest(PiecesCase):
    def test_name_alone(self):
        self.assert_borne("[[a]]", "a", "a", None)
        self.assert_borne("[[ Big-CAT/Paw_]]", " Big-CAT/Paw_", "big_cat/paw", None)

    def test_name_and_part(self):
        self.assert_borne("[[a#b]]", "a#b", "a", "b")
        self.assert_borne("[[Big Cat# Left  Paw ]]", "Big Cat# Left  Paw ", "big_cat", "left_paw")

    def test_name_and_word(self):
        self.assert_borne("[[a|see here]]", "see here", "a", None)
        self.assert_borne("[[A B|=]]", "=", "a_b", None)
        self.assert_borne("[[a| ]]", " ", "a", None)

    def test_name_part_and_word(self):
        self.assert_borne("[[A#B|Word]]", "Word", "a", "b")
        self.assert_borne("[[a/b#c d| two  words ]]", " two  words ", "a/b", "c_d")

    def test_mark_in_a_word(self):
        self.assert_borne("[[a|x#y]]", "x#y", "a", None)
        self.assert_borne("[[a#b|x#y#z]]", "x#y#z", "a", "b")
        self.assert_borne("[[a|#]]", "#", "a", None)
        self.assert_borne("[[a|#b]]", "#b", "a", None)

    def test_any_other_sign_in_a_word(self):
        for number in range(32, 127):
            sign = chr(number)
            text = f"[[a|x{sign}y]]"
            if sign in "[]|":
                self.assert_plain(text)
            else:
                self.assert_borne(text, f"x{sign}y", "a", None)

    def test_bounds_of_names_and_parts(self):
        self.assert_borne("[[" + "a" * 24 + "]]", "a" * 24, "a" * 24, None)
        self.assert_plain("[[" + "a" * 25 + "]]")
        self.assert_borne("[[a#" + "b" * 12 + "]]", "a#" + "b" * 12, "a", "b" * 12)
        self.assert_plain("[[a#" + "b" * 13 + "]]")
        self.assert_borne("[[a/b/c/d]]", "a/b/c/d", "a/b/c/d", None)
        self.assert_plain("[[a/b/c/d/e]]")
        self.assert_borne("[[" + " " * 50 + "a]]", " " * 50 + "a", "a", None)

    def test_names_that_are_none(self):
        for inside in ("", " ", "-", "_ _", "a/", "/a", "a//b", "a.b", "a=b", "!"):
            self.assert_plain(f"[[{inside}]]")
            self.assert_plain(f"[[{inside}#b]]")
            self.assert_plain(f"[[{inside}|w]]")
            self.assert_plain(f"[[{inside}#b|w]]")

    def test_parts_that_are_none(self):
        for part in ("", " ", "-", "_ _", "b/c", "/", "b.c", "!"):
            self.assert_plain(f"[[a#{part}]]")
            self.assert_plain(f"[[a#{part}|w]]")

    def test_empty_word(self):
        self.assert_plain("[[a|]]")
        self.assert_plain("[[a#b|]]")

    def test_line_ends(self):
        for text in ("[[a\n]]", "[[\na]]", "[[a\nb]]", "[[a#b\n]]", "[[a|w\n]]", "[[a|\nw]]", "[[a|\n]]", "[\n[a]]",
                     "[[a]\n]"):
            self.assert_plain(text)

    def test_brackets_in_a_word(self):
        for text in ("[[a|x[y]]", "[[a|[]]", "[[a|x]y]]"):
            self.assert_plain(text)

    def test_stroke_twice(self):
        for text in ("[[a||w]]", "[[a|v|w]]", "[[a|w|]]", "[[a#b|v|w]]", "[[|a]]", "[[a|#|w]]"):
            self.assert_plain(text)

    def test_mark_twice_ahead_of_the_stroke(self):
        for text in ("[[a##b]]", "[[a#b#c]]", "[[a#b#]]", "[[a#b#c|w]]", "[[#a#b]]", "[[a##]]"):
            self.assert_plain(text)

    def test_brackets_not_closed(self):
        for text in ("[[", "[[a", "[[a]", "[[a] ]", "[a]]", "[a]", "]]", "]]a[[", "[[a|w", "[[a|w]", "[ [a]]", "[", "]",
                     "[[a#b", "[[]", "[[]]", "[]"):
            self.assert_plain(text)


class ReadFromTheLeftTest(PiecesCase):
    def test_brackets_amid_others(self):
        self.assertEqual(pieces("[[[a]]"), [("text", "["), ("name", "a", "a", None)])
        self.assertEqual(pieces("[[a]]]"), [("name", "a", "a", None), ("text", "]")])
        self.assertEqual(pieces("[[a[[b]]"), [("text", "[[a"), ("name", "b", "b", None)])
        self.assertEqual(pieces("[[[[a]]]]"), [("text", "[["), ("name", "a", "a", None), ("text", "]]")])
        self.assertEqual(pieces("[[a|x[[b]]"), [("text", "[[a|x"), ("name", "b", "b", None)])
        self.assertEqual(pieces("[[a|[[b|w]]]]"), [("text", "[[a|"), ("name", "w", "b", None), ("text", "]]")])
        self.assertEqual(pieces("[[a][[b]]"), [("text", "[[a]"), ("name", "b", "b", None)])
        self.assertEqual(pieces("[[!]][[b]]"), [("text", "[[!]]"), ("name", "b", "b", None)])
        self.assertEqual(pieces("[[a\n[[b]]"), [("text", "[[a\n"), ("name", "b", "b", None)])
        self.assertEqual(pieces("[[a]]b]]"), [("name", "a", "a", None), ("text", "b]]")])

    def test_side_by_side(self):
        self.assertEqual(pieces("[[a]][[b]]"), [("name", "a", "a", None), ("name", "b", "b", None)])
        self.assertEqual(pieces("[[a]][[a]]"), [("name", "a", "a", None)] * 2)

    def test_plain_signs_in_one_piece(self):
        self.assertEqual(
            pieces("x ]] y\n[[Big Cat]] [[#]] z[[b#c|w]]\n"),
            [("text", "x ]] y\n"), ("name", "Big Cat", "big_cat", None), ("text", " [[#]] z"),
             ("name", "w", "b", "c"), ("text", "\n")])
        self.assert_plain("some [[ plain! ]] signs\nand more")
        self.assert_plain("\n")
        self.assert_plain("".join(chr(number) for number in range(32, 127)))

    def test_empty_text(self):
        self.assertEqual(pieces(""), [])

    def test_all_short_texts(self):
        for many in range(5):
            for signs in itertools.product("[]a#|\n =", repeat=many):
                text = "".join(signs)
                self.assertEqual(pieces(text), plain_pieces(text), repr(text))

    def test_all_short_insides(self):
        for many in range(6):
            for signs in itertools.product("[]a#|", repeat=many):
                text = "[[" + "".join(signs) + "]]"
                self.assertEqual(pieces(text), plain_pieces(text), repr(text))

    def test_rows_of_short_tokens(self):
        tokens = ("[[", "]]", "[", "]", "a", "|", "#", "B c")
        for many in range(6):
            for row in itertools.product(tokens, repeat=many):
                text = "".join(row)
                self.assertEqual(pieces(text), plain_pieces(text), repr(text))

    def test_many_thousand_signs(self):
        many = 20000
        for text, told in (
            ("x[[a]]" * many, [("text", "x"), ("name", "a", "a", None)] * many),
            ("[" * many + "a]]", [("text", "[" * (many - 2)), ("name", "a", "a", None)]),
            ("[[a|" + "w" * many + "]]", [("name", "w" * many, "a", None)]),
            ("[[" + " " * many + "a]]", [("name", " " * many + "a", "a", None)]),
        ):
            # What differs is not shown: to find it in so long a list takes many minutes.
            self.assertTrue(pieces(text) == told, text[:20])
        for text in ("[" * many, "]" * many, "[[a" * many, "[[a|w" * many, "[[" + "a" * many, "x" * many,
                     "[[a]\n" * many, "[[!]]" * many):
            self.assertTrue(pieces(text) == [("text", text)], text[:20])
            self.assertTrue(named(text) == [], text[:20])


class NamedTest(unittest.TestCase):
    def test_sorted_each_once(self):
        text = "[[b]] [[a#z]] [[B |w]] [[a]] [[a#c]] [[A#Z|w]] [[a/b]] [[a_b]] [[b#a]]"
        told = [("a", ""), ("a", "c"), ("a", "z"), ("a/b", ""), ("a_b", ""), ("b", ""), ("b", "a")]
        self.assertEqual(named(text), told)

    def test_part_where_there_is_none(self):
        self.assertEqual(named("[[a]]"), [("a", "")])
        self.assertEqual(named("[[a|w]]"), [("a", "")])

    def test_none_borne(self):
        self.assertEqual(named(""), [])
        self.assertEqual(named("plain [[a|]] a"), [])

    def test_long_text(self):
        text = "".join(f"[[n{number}]]" for number in range(3000, 0, -1)) * 2
        self.assertTrue(named(text) == sorted((f"n{number}", "") for number in range(1, 3001)))

    def test_only_what_is_borne(self):
        self.assertEqual(named("[[a[[b]] [[[c#d]]]"), [("b", ""), ("c", "d")])


class PartsTest(unittest.TestCase):
    def test_heads(self):
        for row in ("= a =", "= A =", "=  a  =", "= -a_ =", "=     a ="):
            self.assertEqual(parts_of(row), ["a"], repr(row))
            self.assertEqual(parts_of("x\n" + row + "\ny"), ["a"], repr(row))
        self.assertEqual(parts_of("= Big  Cat ="), ["big_cat"])
        self.assertEqual(parts_of("= " + "a" * 12 + " ="), ["a" * 12])
        self.assertEqual(parts_of("= " + " " * 30 + "a" * 12 + " ="), ["a" * 12])

    def test_rows_that_nearly_are(self):
        rows = ("=a =", "= a=", "=a=", " = a =", "= a = ", "x= a =", "= a =x", "== a ==", "== a =", "= a ==", "a",
                "= a", "a =", "=", "= =", "=  =", "=   =", "= - =", "= _ _ =", "= a/b =", "= a.b =", "= a#b =",
                "= [[a]] =", "= a = b =", "= " + "a" * 13 + " =", "", "\t= a =", "=\na =", "= a\n=", "= \n =",
                "= a\nb =", "=_a_=", "=-a-=", "= a = =", "= = a =", "= = a = =", "= = =")
        for row in rows:
            self.assertEqual(parts_of(row), [], repr(row))
            with self.assertRaises(NoPart, msg=repr(row)):
                cut(row, "a")

    def test_in_their_order_each_once(self):
        self.assertEqual(parts_of("= b =\n= a =\nx\n= B =\n= c =\n= a ="), ["b", "a", "c"])

    def test_no_parts(self):
        self.assertEqual(parts_of(""), [])
        self.assertEqual(parts_of("\n\n"), [])
        self.assertEqual(parts_of("a\nb"), [])

    def test_many_parts(self):
        text = "\n".join(f"= p{number} =" for number in range(20000)) + "\n= p0 ="
        self.assertTrue(parts_of(text) == [f"p{number}" for number in range(20000)])


class CutTest(unittest.TestCase):
    def test_amid(self):
        self.assertEqual(cut("x\n= a =\ny\nz\n= b =\nw", "a"), ("x\n= b =\nw", "y\nz"))

    def test_at_the_first_row(self):
        self.assertEqual(cut("= a =\ny\n= b =\nz", "a"), ("= b =\nz", "y"))
        self.assertEqual(cut("= a =\ny", "a"), ("", "y"))

    def test_at_the_last_row(self):
        self.assertEqual(cut("x\n= b =\ny\n= a =", "a"), ("x\n= b =\ny", ""))

    def test_the_head_alone(self):
        self.assertEqual(cut("= a =", "a"), ("", ""))

    def test_no_row_behind_the_head(self):
        self.assertEqual(cut("x\n= a =\n= b =\ny", "a"), ("x\n= b =\ny", ""))

    def test_up_to_the_texts_end(self):
        self.assertEqual(cut("x\n= b =\ny\n= a =\nz\nw", "a"), ("x\n= b =\ny", "z\nw"))

    def test_the_first_of_two(self):
        self.assertEqual(cut("x\n= a =\n1\n= a =\n2", "a"), ("x\n= a =\n2", "1"))
        self.assertEqual(cut("x\n= A =\n1\n= b =\n2\n=  a =\n3", "a"), ("x\n= b =\n2\n=  a =\n3", "1"))

    def test_the_rest_is_as_written(self):
        self.assertEqual(cut(" x \n=  B- =\ny\n= a =\n[[ Z ]]", "a"), (" x \n=  B- =\ny", "[[ Z ]]"))

    def test_rows_without_a_sign(self):
        self.assertEqual(cut("\n= a =", "a"), ("", ""))
        self.assertEqual(cut("= a =\n", "a"), ("", ""))
        self.assertEqual(cut("\n\n= a =\n\n\n", "a"), ("\n", "\n\n"))
        self.assertEqual(cut("x\n\n= a =\n\ny\n\n= b =\n", "a"), ("x\n\n= b =\n", "\ny\n"))

    def test_rows_that_nearly_are_heads_stay_inside(self):
        self.assertEqual(cut("= a =\n = b =\n=b=\n= b = \nx", "a"), ("", " = b =\n=b=\n= b = \nx"))

    def test_part_written_in_any_way(self):
        for part in ("Big  Cat", "big-cat", "_BIG_cat ", "big_cat"):
            self.assertEqual(cut("x\n= BIG cat =\ny", part), ("x", "y"))

    def test_no_name_ahead_of_no_part(self):
        for part in NO_PARTS:
            for text in ("", "x", "= a ="):
                with self.assertRaises(NoName, msg=repr(part)):
                    cut(text, part)

    def test_no_part(self):
        for text in ("", "x", "= b =", "a", "=a=", "= ab =\nx", "[[x#a]]"):
            with self.assertRaises(NoPart, msg=repr(text)):
                cut(text, "a")

    def test_it_is_a_tuple(self):
        self.assertIs(cut("= a =", "a").__class__, tuple)

    def test_more_than_a_thousand_rows(self):
        rows = [f"row {number}" for number in range(5000)]
        text = "\n".join(rows[:2000] + ["= a ="] + rows[2000:3500] + ["= b ="] + rows[3500:])
        rest, section = cut(text, "a")
        self.assertTrue(rest.split("\n") == rows[:2000] + ["= b ="] + rows[3500:])
        self.assertTrue(section.split("\n") == rows[2000:3500])
        rest, section = cut(text, "b")
        self.assertTrue(rest.split("\n") == rows[:2000] + ["= a ="] + rows[2000:3500])
        self.assertTrue(section.split("\n") == rows[3500:])
        self.assertEqual(parts_of(text), ["a", "b"])

    def test_all_short_texts(self):
        for many in range(1, 6):
            for rows in itertools.product(("x", "", "= a =", "=  B =", "= a="), repeat=many):
                text = "\n".join(rows)
                for part in ("a", "b"):
                    parts, rest, section = plain_cut(text, part)
                    self.assertEqual(parts_of(text), parts, repr(text))
                    if section is None:
                        with self.assertRaises(NoPart, msg=repr(text)):
                            cut(text, part)
                    else:
                        self.assertEqual(cut(text, part), (rest, section), repr(text))


class AskersOwnListsTest(unittest.TestCase):
    """Point 2: what is told is the asker's own, and asked again the same is told."""

    def test_told_lists_are_new_ones(self):
        text = "x [[b#c|w]]\n= p =\n[[a]]\n= q ="
        for ask in (pieces, parts_of, named):
            told = ask(text)
            kept = list(told)
            self.assertGreater(len(told), 1)
            told.reverse()
            told.append("more")
            del told[0]
            self.assertEqual(ask(text), kept)
            self.assertIs(ask(text).__class__, list)
            self.assertIsNot(ask(text), ask(text))

    def test_empty_lists_are_new_ones(self):
        for ask in (pieces, parts_of, named):
            ask("").append("more")
            self.assertEqual(ask(""), [])

    def test_pieces_are_tuples(self):
        for piece in pieces("x[[a]]"):
            self.assertIs(piece.__class__, tuple)
        for pair in named("[[a]]"):
            self.assertIs(pair.__class__, tuple)

    def test_asked_again(self):
        text = "x\n= a =\ny [[b]]"
        self.assertEqual(cut(text, "a"), cut(text, "a"))
        self.assertEqual(cut(text, "a"), ("x", "y [[b]]"))
        for ask in (pieces, parts_of, named):
            self.assertEqual(ask(text), ask(text))


if __name__ == "__main__":
    unittest.main()
