"""Tests of nonames.kinds (points 7 and 8)."""

import unittest
from nonames.errors import BadKind
from nonames.kinds import check_kind, inner_kinds, kind_depth

ONE = ("one", 0)
GOOD = [
    ("named", 0), ("named", 9), ("one", 0), ("lot", 0, 0), ("lot", 0, 9), ("row", 0), ("round", 0), ("hand", 0),
    ("parts", 0, (1,)), ("parts", 0, (4, 4, 4, 4)), ("parts", 0, (1, 1, 2)), ("web", 0), ("tree", 0),
    ("either", ONE, ONE), ("both", ONE, ("web", 0)), ("lots", ONE, 0), ("lots", ONE, 9), ("maps", ONE, ONE),
    ("pairing", ONE, ONE),
]
WRONG = [
    ("named", -1), ("named", 10), ("named",), ("named", 1, 1), ("named", "1"), ("named", (1,)),
    ("one", -1), ("one", 1), ("one",), ("one", 0, 0), ("one", "a"), ("one", ()),
    ("lot", 0, -1), ("lot", 0, 10), ("lot", 1, 1), ("lot", -1, 1), ("lot", 0), ("lot", 0, 1, 1), ("lot", 0, (1,)),
    ("row", 1), ("row",), ("row", 0, 0), ("round", 1), ("round",), ("round", 0, 0), ("hand", 1), ("hand",),
    ("hand", 0, 0), ("row", -1), ("round", -1), ("hand", -1), ("web", -1), ("tree", -1),
    ("parts", 0, ()), ("parts", 0, (0,)), ("parts", 0, (5,)), ("parts", 0, (1, 1, 1, 1, 1)), ("parts", 0, (2, 1)),
    ("parts", 0, (0, 1)), ("parts", 0, (1, 5)), ("parts", 0, 1), ("parts", 0, "1"), ("parts", 0, ("1",)),
    ("parts", 0, ((1,),)), ("parts", 1, (1,)), ("parts", -1, (1,)), ("parts", 0), ("parts", 0, (1,), (1,)),
    ("web", 1), ("web",), ("web", 0, 0), ("tree", 1), ("tree",), ("tree", 0, 0),
    ("either", ONE), ("either", ONE, ONE, ONE), ("either",), ("both", ONE), ("both", ONE, ONE, ONE), ("both",),
    ("lots", ONE, -1), ("lots", ONE, 10), ("lots", ONE), ("lots", ONE, 1, 1), ("lots", ONE, ONE), ("lots",),
    ("maps", ONE), ("maps", ONE, ONE, ONE), ("pairing", ONE), ("pairing", ONE, ONE, ONE),
    (), ("",), ("thing", 0), ("ONE", 0), ("one ", 0), (0,), (0, 0), ((), 0), (("one", 0), 0), ("maps",), ("pairing",),
    0, 3, -1, "", "one", "one(a)",
]


def deep(levels, core=ONE):
    """A kind with so many levels."""
    kind = core
    for _ in range(levels - 1):
        kind = ("both", ONE, kind)
    return kind


class KindsTest(unittest.TestCase):
    def bad(self, kind, sorts, part):
        with self.assertRaises(BadKind) as caught:
            check_kind(kind, sorts)
        self.assertEqual(caught.exception.given, part)

    def test_each_tag(self):
        for kind in GOOD:
            self.assertIsNone(check_kind(kind, 1), kind)
            self.assertIsNone(check_kind(kind, 2), kind)

    def test_second_sort(self):
        for kind in (("one", 1), ("lot", 1, 2), ("row", 1), ("round", 1), ("hand", 1), ("parts", 1, (2,)),
                     ("web", 1), ("tree", 1)):
            self.assertIsNone(check_kind(kind, 2), kind)
            self.bad(kind, 1, kind)
            self.bad((kind[0], 2) + kind[2:], 2, (kind[0], 2) + kind[2:])

    def test_all_limits_of_numbers(self):
        for number in range(-2, 13):
            for kind in (("named", number), ("lot", 0, number), ("lots", ONE, number)):
                if 0 <= number <= 9:
                    self.assertIsNone(check_kind(kind, 1))
                else:
                    self.bad(kind, 1, kind)

    def test_wrong_kinds(self):
        for kind in WRONG:
            self.bad(kind, 1, kind)

    def test_wrong_kinds_inside(self):
        for part in WRONG:
            self.bad(("lots", part, 1), 1, part)
            for tag in ("either", "both", "maps", "pairing"):
                self.bad((tag, part, ONE), 1, part)
                self.bad((tag, ONE, part), 1, part)

    def test_first_wrong_part(self):
        # A part comes before its inner kinds.
        self.bad(("lots", ("one", 7), 10), 1, ("lots", ("one", 7), 10))
        self.bad(("both", ("one", 7)), 1, ("both", ("one", 7)))
        # The left inner kind, with everything inside it, comes before the right one.
        self.bad(("both", ("one", 7), ("row", 7)), 1, ("one", 7))
        self.bad(("both", ("lots", ("one", 7), 1), ("row", 7)), 1, ("one", 7))
        self.bad(("both", ("either", ONE, ("one", 7)), 5), 1, ("one", 7))
        self.bad(("maps", ("either", ONE, ONE), ("both", ("web", 3), "x")), 1, ("web", 3))

    def test_six_levels_and_seven(self):
        self.assertIsNone(check_kind(deep(6), 1))
        self.bad(deep(7), 1, ONE)
        self.bad(deep(7, ("row", 0)), 1, ONE)
        left = ONE
        for _ in range(6):
            left = ("lots", left, 1)
        self.bad(left, 1, ONE)

    def test_wrong_level_against_wrong_form(self):
        # What stands below the sixth level is wrong, whatever it is; what stands before it is told first.
        self.bad(deep(7, ("web", 9)), 1, ONE)
        self.bad(("both", deep(6), ("one", 4)), 1, ONE)
        self.bad(("both", ("one", 4), deep(6)), 1, ("one", 4))
        self.bad(("both", deep(5), ("one", 4)), 1, ("one", 4))
        self.bad(deep(8), 1, ONE)

    def test_seventh_level_part_itself_is_given(self):
        kind = ("both", ("named", 1), ONE)
        for _ in range(5):
            kind = ("lots", kind, 1)
        self.bad(kind, 1, ("named", 1))
        self.bad(("lots", kind, 1), 1, ("both", ("named", 1), ONE))

    def test_inner_kinds(self):
        self.assertEqual(inner_kinds(("web", 0)), ())
        self.assertEqual(inner_kinds(("named", 4)), ())
        self.assertEqual(inner_kinds(("parts", 0, (1, 2))), ())
        self.assertEqual(inner_kinds(("lots", ONE, 2)), (ONE,))
        for tag in ("either", "both", "maps", "pairing"):
            self.assertEqual(inner_kinds((tag, ONE, ("web", 0))), (ONE, ("web", 0)))

    def test_kind_depth(self):
        for kind in GOOD[:13]:
            self.assertEqual(kind_depth(kind), 1)
        self.assertEqual(kind_depth(("lots", ONE, 2)), 2)
        self.assertEqual(kind_depth(("both", ("lots", ONE, 2), ONE)), 3)
        self.assertEqual(kind_depth(("both", ONE, ("lots", ONE, 2))), 3)
        self.assertEqual([kind_depth(deep(levels)) for levels in range(1, 7)], [1, 2, 3, 4, 5, 6])


if __name__ == "__main__":
    unittest.main()
