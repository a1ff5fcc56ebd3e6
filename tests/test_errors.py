"""Point 2: the refusals."""

import unittest

from signsleft import errors
from signsleft.errors import Barred, SignError, Stopped

WORDS = (
    "NoName", "NoRule", "NoPart", "NoText", "NoPage", "Sign", "Away", "Taken", "Barred", "Same", "Clash",
    "TooLong", "NotAway", "Ring", "NoTime", "NoStand", "NoDeed", "NoRow", "Stopped",
)
WITH_VALUE = ("Barred", "Stopped")


class ErrorsTest(unittest.TestCase):
    def test_base_is_right_under_value_error(self):
        self.assertEqual(SignError.__bases__, (ValueError,))

    def test_each_is_right_under_the_base_alone(self):
        self.assertEqual(len(WORDS), 19)
        for word in WORDS:
            with self.subTest(word):
                self.assertEqual(getattr(errors, word).__bases__, (SignError,))
                self.assertEqual(getattr(errors, word).__name__, word)

    def test_none_is_under_another_one(self):
        for word in WORDS:
            for other in WORDS:
                if word != other:
                    self.assertFalse(issubclass(getattr(errors, word), getattr(errors, other)), (word, other))

    def test_there_are_no_others(self):
        told = [name for name in vars(errors) if isinstance(getattr(errors, name), type)]
        self.assertEqual(sorted(told), sorted(WORDS + ("SignError",)))

    def test_all_are_defined_in_their_file(self):
        for word in WORDS + ("SignError",):
            self.assertEqual(getattr(errors, word).__module__, "signsleft.errors")

    def test_barred_bears_its_page(self):
        for page in (0, 7):
            with self.assertRaises(SignError) as caught:
                raise Barred(page)
            self.assertEqual(vars(caught.exception), {"page": page})
            self.assertIsInstance(str(caught.exception), str)

    def test_stopped_bears_its_number(self):
        for at in (0, 7):
            with self.assertRaises(SignError) as caught:
                raise Stopped(at)
            self.assertEqual(vars(caught.exception), {"at": at})
            self.assertIsInstance(str(caught.exception), str)

    def test_the_others_bear_no_value(self):
        for word in WORDS:
            if word not in WITH_VALUE:
                self.assertEqual(vars(getattr(errors, word)("why")), {})
                self.assertEqual(vars(getattr(errors, word)()), {})


if __name__ == "__main__":
    unittest.main()
