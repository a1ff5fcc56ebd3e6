"""Points 5 to 7: names, stems and parts' names."""

import itertools
import re
import unittest

from signsleft.errors import NoName, NoRule
from signsleft.names import is_name, is_of, moved, name_of, part_of, target_of

NO_TEXTS = (0, 1, 24, -1, True, False, None, [], ["a"], (), ("a",), {}, {"a": "a"}, {"a"}, b"a", b"", object(), str)
NAME_SIGNS = "abcdefghijklmnopqrstuvwxyzABCDEFGHIJKLMNOPQRSTUVWXYZ0123456789 _-/"
ALL_SIGNS = [chr(number) for number in range(32, 127)] + ["\n"]
OTHER_SIGNS = [sign for sign in ALL_SIGNS if sign not in NAME_SIGNS]


def plain_name(writing):
    """What point 5 says, by patterns: the name, or None."""
    if re.fullmatch(r"[A-Za-z0-9 _/-]*", writing) is None:
        return None
    name = re.sub(r"[ _-]+", "_", writing.lower())
    name = re.sub(r"(^|/)_", r"\1", name)
    name = re.sub(r"_(/|\Z)", r"\1", name)
    if len(name) > 24 or re.fullmatch(r"[^/]+(/[^/]+){0,3}", name) is None:
        return None
    return name


class NameCase(unittest.TestCase):
    def assert_name(self, writing, name):
        self.assertIs(is_name(writing), True, repr(writing))
        self.assertEqual(name_of(writing), name, repr(writing))
        self.assertIs(is_name(writing), True, repr(writing))

    def assert_no_name(self, thing):
        self.assertIs(is_name(thing), False, repr(thing))
        with self.assertRaises(NoName, msg=repr(thing)):
            name_of(thing)
        with self.assertRaises(NoName, msg=repr(thing)):
            part_of(thing)


class WrittenNamesTest(NameCase):
    def test_the_documents_own_writings(self):
        for writing in ("Big  Cat", "big-cat", "_BIG_cat ", "big_cat"):
            self.assert_name(writing, "big_cat")

    def test_rows_of_strokes_amid_come_to_one(self):
        for many in (1, 2, 3, 4):
            for row in itertools.product(" _-", repeat=many):
                strokes = "".join(row)
                self.assert_name("a" + strokes + "b", "a_b")
                self.assert_name("x/a" + strokes + "b/y", "x/a_b/y")

    def test_rows_of_strokes_ahead_and_behind_come_to_nothing(self):
        for strokes in (" ", "_", "-", "  ", "__", "--", " _", "-_ ", "_-_ -"):
            for segments in (["a"], ["a", "b"], ["a", "b", "c"], ["a", "b", "c", "d"]):
                name = "/".join(segments)
                for at in range(len(segments)):
                    for written in (strokes + segments[at], segments[at] + strokes, strokes + segments[at] + strokes):
                        writing = "/".join(segments[:at] + [written] + segments[at + 1:])
                        self.assert_name(writing, name)

    def test_strokes_in_each_segment_at_once(self):
        self.assert_name(" -A b_/_c--D- / E_ -f/-g ", "a_b/c_d/e_f/g")

    def test_strokes_stay_parted_by_signs(self):
        self.assert_name("a_b-c d", "a_b_c_d")
        self.assertNotEqual(name_of("ab"), name_of("a b"))

    def test_great_letters_and_figures(self):
        self.assert_name("ABCDEFGHIJKLM", "abcdefghijklm")
        self.assert_name("NOPQRSTUVWXYZ", "nopqrstuvwxyz")
        self.assert_name("0123456789", "0123456789")
        self.assert_name("7", "7")
        self.assert_name("aB3/4Cd", "ab3/4cd")

    def test_each_sign_of_a_name(self):
        for sign in NAME_SIGNS:
            if sign.isalnum():
                self.assert_name(sign, sign.lower())

    def test_one_to_four_segments(self):
        self.assert_name("a", "a")
        self.assert_name("a/b", "a/b")
        self.assert_name("a/b/c", "a/b/c")
        self.assert_name("a/b/c/d", "a/b/c/d")
        self.assert_no_name("a/b/c/d/e")
        self.assert_no_name("a/b/c/d/e/f")

    def test_24_signs_and_25(self):
        self.assert_name("a" * 23, "a" * 23)
        self.assert_name("a" * 24, "a" * 24)
        self.assert_no_name("a" * 25)
        self.assert_no_name("a" * 5000)

    def test_24_signs_and_25_with_strokes_and_slashes(self):
        self.assert_name("a" * 11 + "/" + "b" * 12, "a" * 11 + "/" + "b" * 12)
        self.assert_no_name("a" * 12 + "/" + "b" * 12)
        self.assert_name("a" * 11 + "_" + "b" * 12, "a" * 11 + "_" + "b" * 12)
        self.assert_no_name("a" * 12 + "_" + "b" * 12)
        self.assert_name("aaaaa/bbbbb/ccccc/dddddd", "aaaaa/bbbbb/ccccc/dddddd")
        self.assert_no_name("aaaaa/bbbbb/cccccc/dddddd")

    def test_length_is_that_of_what_it_comes_to(self):
        self.assert_name(" " * 10 + "a" * 24 + "-" * 10, "a" * 24)
        self.assert_no_name(" " * 10 + "a" * 25)
        self.assert_name("a" * 11 + " _-" * 20 + "b" * 12, "a" * 11 + "_" + "b" * 12)
        self.assert_no_name("a" * 12 + " _-" * 20 + "b" * 12)
        self.assert_name("a " * 12, "a_a_a_a_a_a_a_a_a_a_a_a")
        self.assert_name("a" + " " * 50000 + "b", "a_b")

    def test_segments_without_a_sign(self):
        for hollow in ("", " ", "_", "-", "   ", " _-", "-_- "):
            self.assert_no_name(hollow)
            for many in (2, 3, 4):
                for at in range(many):
                    segments = ["a"] * many
                    segments[at] = hollow
                    self.assert_no_name("/".join(segments))

    def test_slashes_alone(self):
        for many in (1, 2, 3, 4, 5):
            self.assert_no_name("/" * many)

    def test_each_other_sign(self):
        self.assertIn("\n", OTHER_SIGNS)
        self.assertIn("#", OTHER_SIGNS)
        for sign in OTHER_SIGNS:
            for writing in (sign, "a" + sign, sign + "a", "a" + sign + "b", "a/" + sign, "a " + sign + " b"):
                self.assert_no_name(writing)

    def test_things_that_are_no_text(self):
        for thing in NO_TEXTS:
            self.assert_no_name(thing)

    def test_a_name_is_written_as_itself(self):
        for writing in ("Big  Cat", "_A - B_/-c-", "9", "a/b/c/d", " x" * 12, "A" * 24):
            name = name_of(writing)
            self.assert_name(name, name)

    def test_all_short_writings(self):
        for many in range(7):
            for signs in itertools.product("aB _-/", repeat=many):
                writing = "".join(signs)
                name = plain_name(writing)
                self.assertIs(is_name(writing), name is not None, repr(writing))
                if name is not None:
                    self.assertEqual(name_of(writing), name, repr(writing))
                    self.assertEqual(name_of(name), name)

    def test_long_writings_around_the_bound(self):
        for many in (7, 8, 9, 10):
            for tail in itertools.product(("a", "-", "/", "a "), repeat=3):
                writing = "abc" * many + "".join(tail)
                self.assertEqual(is_name(writing), plain_name(writing) is not None, repr(writing))

    def test_asking_changes_nothing_handed_in(self):
        things = ["a"]
        for ask in (is_name, name_of, part_of):
            try:
                ask(things)
            except NoName:
                pass
        self.assertEqual(things, ["a"])


class FamilyTest(NameCase):
    def test_the_stem_itself(self):
        self.assertIs(is_of("a", "a"), True)
        self.assertIs(is_of("a/b", "a/b"), True)

    def test_what_begins_with_the_stem_and_a_slash(self):
        self.assertIs(is_of("a/b", "a"), True)
        self.assertIs(is_of("a/b/c/d", "a"), True)
        self.assertIs(is_of("a/b/c", "a/b"), True)

    def test_what_only_begins_alike(self):
        self.assertIs(is_of("ab", "a"), False)
        self.assertIs(is_of("a_b", "a"), False)
        self.assertIs(is_of("ab/c", "a"), False)
        self.assertIs(is_of("a/bc", "a/b"), False)
        self.assertIs(is_of("a/b_c", "a/b"), False)

    def test_what_is_elsewhere(self):
        self.assertIs(is_of("a", "a/b"), False)
        self.assertIs(is_of("b/a", "a"), False)
        self.assertIs(is_of("b", "a"), False)

    def test_written_in_any_way(self):
        self.assertIs(is_of("Big  Cat / Tail", "_big-CAT_"), True)
        self.assertIs(is_of("BIG cat", "big_cat"), True)
        self.assertIs(is_of("big_cats", "Big Cat"), False)

    def test_no_name(self):
        for thing in ("", "a//b", "a#b", "a" * 25, "a/b/c/d/e", None, 3, True, ["a"]):
            for name, stem in ((thing, "a"), ("a", thing), (thing, thing)):
                with self.assertRaises(NoName, msg=repr(thing)):
                    is_of(name, stem)

    def test_slash_behind_the_stem_is_no_stem(self):
        with self.assertRaises(NoName):
            is_of("a/b", "a/")


class MovedTest(NameCase):
    def assert_refused(self, refusal, name, stem, new):
        with self.assertRaises(refusal, msg=(name, stem, new)) as caught:
            moved(name, stem, new)
        self.assertEqual(caught.exception.__class__, refusal, (name, stem, new))

    def test_moved(self):
        self.assertEqual(moved("a", "a", "x"), "x")
        self.assertEqual(moved("a/b", "a", "x"), "x/b")
        self.assertEqual(moved("a/b/c", "a/b", "x"), "x/c")
        self.assertEqual(moved("a/b", "a/b", "x/y/z"), "x/y/z")
        self.assertEqual(moved("a/b/c", "a", "x/y"), "x/y/b/c")

    def test_only_the_begin_is_moved(self):
        self.assertEqual(moved("a/a/a", "a", "x"), "x/a/a")
        self.assertEqual(moved("a/b/a/b", "a/b", "x"), "x/a/b")

    def test_stems_that_only_begin_alike(self):
        self.assertEqual(moved("a/b", "a", "ab"), "ab/b")
        self.assertEqual(moved("ab/c", "ab", "a"), "a/c")
        self.assertEqual(moved("a/b/c", "a/b", "a/d"), "a/d/c")

    def test_written_in_any_way(self):
        self.assertEqual(moved("Big Cat/Left - Paw", " BIG_cat", "Old--Dog "), "old_dog/left_paw")

    def test_no_name_first(self):
        for thing in ("", "a//b", "a#b", "a" * 25, "a/b/c/d/e", "a\n", None, 3, True, ["a"]):
            self.assert_refused(NoName, thing, "a", "b")
            self.assert_refused(NoName, "a", thing, "b")
            self.assert_refused(NoName, "a", "b", thing)

    def test_no_name_ahead_of_no_rule(self):
        self.assert_refused(NoName, "!", "a", "a")
        self.assert_refused(NoName, "x", "a", "!")
        self.assert_refused(NoName, "x", "!", "a")
        self.assert_refused(NoName, "a", "a", "a/")

    def test_one_stem_of_the_other_ones_family(self):
        self.assert_refused(NoRule, "a", "a", "a")
        self.assert_refused(NoRule, "a/b", "a", "A ")
        self.assert_refused(NoRule, "a", "a", "a/b")
        self.assert_refused(NoRule, "a/b", "a/b", "a")
        self.assert_refused(NoRule, "a/b/c/d", "a/b/c", "a")

    def test_name_not_of_the_stem(self):
        self.assert_refused(NoRule, "b", "a", "x")
        self.assert_refused(NoRule, "ab", "a", "x")
        self.assert_refused(NoRule, "a", "a/b", "x")
        self.assert_refused(NoRule, "x", "a", "x")

    def test_no_rule_ahead_of_what_it_comes_to(self):
        self.assert_refused(NoRule, "a/b/c/d", "a", "a/x")
        self.assert_refused(NoRule, "b/b/c/d", "a", "x/y")
        self.assert_refused(NoRule, "ab" + "c" * 20, "a", "x" * 24)

    def test_more_than_four_segments(self):
        self.assertEqual(moved("a/b/c", "a", "x/y"), "x/y/b/c")
        self.assert_refused(NoName, "a/b/c/d", "a", "x/y")
        self.assert_refused(NoName, "a/b", "a", "w/x/y/z")

    def test_more_than_24_signs(self):
        self.assertEqual(moved("a/" + "b" * 11, "a", "x" * 12), "x" * 12 + "/" + "b" * 11)
        self.assert_refused(NoName, "a/" + "b" * 12, "a", "x" * 12)
        self.assert_refused(NoName, "a/b", "a", "x" * 24)
        self.assertEqual(moved("a", "a", "x" * 24), "x" * 24)


class PartsNamesTest(unittest.TestCase):
    def assert_no_part(self, thing):
        with self.assertRaises(NoName, msg=repr(thing)):
            part_of(thing)

    def test_likewise_written(self):
        self.assertEqual(part_of("Big  Cat"), "big_cat")
        self.assertEqual(part_of("-7_"), "7")
        self.assertEqual(part_of("top"), "top")

    def test_12_signs_and_13(self):
        self.assertEqual(part_of("a" * 12), "a" * 12)
        self.assert_no_part("a" * 13)
        self.assertEqual(part_of("abcde - fghijk"), "abcde_fghijk")
        self.assert_no_part("abcde - fghijkl")
        self.assertEqual(part_of(" " * 20 + "a" * 12 + "_" * 20), "a" * 12)
        self.assert_no_part(" " * 20 + "a" * 13)

    def test_slashes(self):
        for writing in ("a/b", "/a", "a/", "/", "a/b/c"):
            self.assert_no_part(writing)

    def test_nothing_but_strokes(self):
        for writing in ("", " ", "_", "-", " _- "):
            self.assert_no_part(writing)

    def test_each_other_sign(self):
        for sign in OTHER_SIGNS:
            for writing in (sign, "a" + sign, sign + "a"):
                self.assert_no_part(writing)

    def test_what_is_no_text(self):
        for thing in NO_TEXTS:
            self.assert_no_part(thing)


class TargetsTest(unittest.TestCase):
    """What point 23 asks of a name with a part, and point 8 of what stands between brackets."""

    def test_name_alone(self):
        self.assertEqual(target_of("Big Cat/A"), ("big_cat/a", None))

    def test_name_and_part(self):
        self.assertEqual(target_of("Big Cat # Top "), ("big_cat", "top"))

    def test_what_is_none(self):
        for thing in ("", "#", "a#", "#a", "a#b#c", "a#b/c", "a#" + "b" * 13, "a|b", "a\n#b") + NO_TEXTS:
            with self.assertRaises(NoName, msg=repr(thing)):
                target_of(thing)


if __name__ == "__main__":
    unittest.main()
