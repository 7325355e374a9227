"""Section 17, and what section 2 says of errors."""

import unittest

from alldrawn import errors
from alldrawn.errors import DrawError
from tests.helper import Case, FLAT, KITE, wrong_values

NAMES = """BadNet NotTied NoPlace BadTie Full Few BadRing BadWheels Crossed BadLook NotOff NoDrawing BadPlaces BadTies
    BadNumber BadTurning OtherNet BadLooks TooMany Against BadOffers BadWishes BadNames NotThere Tied NothingToUndo
    NothingToRedo NoTrial BadJournal BadLine""".split()


class Errors(Case):
    def test_all_are_there_and_nothing_else(self):
        found = [name for name, value in vars(errors).items() if isinstance(value, type)]
        self.assertEqual(sorted(found), sorted(["DrawError"] + NAMES))
        self.assertEqual(len(NAMES), 30)

    def test_bases(self):
        self.assertEqual(DrawError.__bases__, (ValueError,))
        for name in NAMES:
            with self.subTest(name):
                self.assertEqual(getattr(errors, name).__bases__, (DrawError,))

    def test_defined_here(self):
        for name in ["DrawError"] + NAMES:
            with self.subTest(name):
                error = getattr(errors, name)
                self.assertEqual((error.__module__, error.__name__), ("alldrawn.errors", name))

    def test_value_of_any_kind(self):
        for name in ["DrawError"] + NAMES:
            error = getattr(errors, name)
            for value in wrong_values() + [KITE, FLAT, "text", 45, object()]:
                with self.subTest(name, value=value):
                    made = error(value)
                    self.assertIs(made.value, value)
                    self.assertIn("value", vars(made))

    def test_just_one_argument(self):
        for name in ["DrawError"] + NAMES:
            with self.subTest(name):
                error = getattr(errors, name)
                self.assertRaises(TypeError, error)
                self.assertRaises(TypeError, error, 1, 2)

    def test_raised_and_caught(self):
        for name in NAMES:
            error = getattr(errors, name)
            for wider in (error, DrawError, ValueError):
                with self.subTest(name, wider=wider.__name__):
                    with self.assertRaises(wider) as caught:
                        raise error(["a"])
                    self.same(caught.exception.value, ["a"])

    def test_value_is_kept_as_it_is(self):
        value = ["a"]
        made = errors.BadTie(value)
        value.append("b")
        self.same(made.value, ["a", "b"])


if __name__ == "__main__":
    unittest.main()
