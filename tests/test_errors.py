"""Tests of nonames.errors (the interface's list of errors)."""

import unittest
from nonames import errors

PLAIN = ("BadWorld BadRenaming BadKind TooMany BadStructure BadGroup BadAction BadMarks BadRule BadHelper BadMove "
         "BadPick BadPower BadMap BadEntry UnknownName NothingToUndo Impossible").split()
IMPOSSIBLE = "NoRule NoWay NoPlan NoBridge NoDivision".split()


class ErrorsTest(unittest.TestCase):
    def test_base_class(self):
        self.assertEqual(errors.NonamesError.__bases__, (ValueError,))
        self.assertEqual(errors.NonamesError((1, 2)).given, (1, 2))

    def test_classes_directly_under_the_base(self):
        for name in PLAIN:
            made = getattr(errors, name)
            self.assertEqual(made.__bases__, (errors.NonamesError,), name)
            self.assertEqual(made(("a", 0)).given, ("a", 0), name)
            self.assertEqual(made.__module__, "nonames.errors")

    def test_classes_directly_under_impossible(self):
        for name in IMPOSSIBLE:
            made = getattr(errors, name)
            self.assertEqual(made.__bases__, (errors.Impossible,), name)
            self.assertEqual(made(7).given, 7, name)

    def test_bad_text_has_a_place(self):
        error = errors.BadText("lot(a 2)", 6)
        self.assertEqual(errors.BadText.__bases__, (errors.NonamesError,))
        self.assertEqual((error.given, error.place), ("lot(a 2)", 6))

    def test_given_may_be_any_value(self):
        for value in (None, "", (), -3, [1], ((1, (2,)), "x")):
            self.assertEqual(errors.BadKind(value).given, value)

    def test_errors_are_raised_and_caught_by_their_base(self):
        with self.assertRaises(errors.NonamesError) as caught:
            raise errors.NoPlan(4)
        self.assertEqual(caught.exception.given, 4)
        with self.assertRaises(ValueError):
            raise errors.BadText("x", 1)

    def test_an_error_can_be_shown(self):
        self.assertTrue(str(errors.BadWorld((5,))))
        self.assertTrue(str(errors.BadText("x", 0)))


if __name__ == "__main__":
    unittest.main()
