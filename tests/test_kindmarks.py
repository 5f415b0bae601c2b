"""Tests of nonames.kindmarks (points 64 to 66)."""

import unittest
from nonames.errors import BadKind, TooMany
from nonames.kindmarks import kind_marks
from nonames.lattices import Lattice
from nonames.marks import Marks
from nonames.spaces import Space
from nonames.worlds import World
from slow import built_kinds, plain_kinds, slow_list, slow_rename

TEN = ("either", ("named", 9), ("named", 1))
HUNDRED = ("both", TEN, TEN)
MORE = ("either", HUNDRED, ("named", 1))
SIXTY = ("both", ("named", 6), TEN)
HUGE = ("maps", SIXTY, TEN)
OVER = ("either", HUGE, ("named", 1))
ONE, WEB, ROW, HAND = ("one", 0), ("web", 0), ("row", 0), ("hand", 0)


class KindMarksTest(unittest.TestCase):
    def setUp(self):
        self.lattice = Lattice(World((3,)))

    def too_many(self, kind, part):
        with self.assertRaises(TooMany) as caught:
            kind_marks(self.lattice, kind)
        self.assertEqual(caught.exception.given, part)

    def slow(self, sizes, kind):
        """The marks, found by looking at every structure under every renaming."""
        lattice = Lattice(World(sizes))
        values = slow_list(sizes, kind)
        still = [[slow_rename(sizes, kind, value, row) == value for value in values] for row in lattice.world.renamings]
        return [sum(1 for at in range(len(values)) if all(still[member][at] for member in lattice.groups[lot[0]]))
                for lot in lattice.classes]

    def test_example(self):
        marks = kind_marks(self.lattice, ("maps", WEB, WEB))
        self.assertIsInstance(marks, Marks)
        self.assertIs(marks.lattice, self.lattice)
        self.assertEqual(list(marks), [16777216, 16384, 256, 64])

    def test_bad_kind(self):
        for kind, part in ((ONE + (0,), ONE + (0,)), (5, 5), (("one", 1), ("one", 1)), (("lots", ("row", 3), 2), ("row", 3)),
                           (("both", OVER, ("one", 1)), ("one", 1)), (("lots", OVER, 10), ("lots", OVER, 10))):
            with self.assertRaises(BadKind) as caught:
                kind_marks(self.lattice, kind)
            self.assertEqual(caught.exception.given, part)
        self.assertEqual(list(kind_marks(Lattice(World((1, 2))), ("one", 1))), [2, 0])

    def test_kinds_that_can_be_listed(self):
        for sizes in ((0,), (1,), (2,), (3,), (2, 2), (0, 2), (2, 1), (3, 2), (4,)):
            lattice = Lattice(World(sizes))
            kinds = plain_kinds(len(sizes))
            kinds += [kind for kind in built_kinds(len(sizes)) if sum(sizes) < 5 and max(sizes) < 4]
            for kind in kinds:
                self.assertTrue(kind_marks(lattice, kind) == Marks.of_space(lattice, Space(lattice.world, kind)), kind)

    def test_kinds_beyond_a_hundred(self):
        for kind in (("either", ("maps", ONE, WEB), ("both", WEB, ROW)), ("both", WEB, ("both", WEB, WEB)),
                     ("both", ("maps", ONE, ROW), HAND), ("lots", ("both", ONE, WEB), 3), ("lots", ("both", WEB, ROW), 2),
                     ("maps", ONE, WEB), ("maps", ONE, ("both", HAND, WEB)), ("maps", HAND, ("both", WEB, WEB)),
                     ("maps", ("lots", ONE, 2), WEB), ("pairing", ROW, ROW), ("pairing", ROW, ("both", ONE, HAND)),
                     ("pairing", ("both", ONE, HAND), ROW), ("pairing", ("both", ONE, ("named", 2)), ROW),
                     ("maps", HAND, ("maps", ONE, HAND))):
            self.assertEqual(list(kind_marks(self.lattice, kind)), self.slow((3,), kind), kind)

    def test_kinds_of_two_sorts_beyond_a_hundred(self):
        lattice = Lattice(World((2, 2)))
        for kind in (("maps", ("both", ("one", 0), ("one", 1)), ("either", ("one", 0), ("one", 1))),
                     ("pairing", ("either", ONE, ("either", ("one", 1), ("hand", 1))),
                      ("either", HAND, ("either", ("hand", 1), ONE))),
                     ("lots", ("both", ("either", ONE, ("one", 1)), ("either", ONE, ("hand", 1))), 4)):
            self.assertEqual(list(kind_marks(lattice, kind)), self.slow((2, 2), kind))

    def test_pairing_of_different_numbers(self):
        for kind in (("pairing", ROW, ONE), ("pairing", ONE, ROW), ("pairing", WEB, ROW), ("pairing", HUNDRED, TEN)):
            self.assertEqual(list(kind_marks(self.lattice, kind)), [0, 0, 0, 0])

    def test_pairing_of_unlike_kinds(self):
        # As many structures, but no pairing stays as it is under every renaming.
        self.assertEqual(list(kind_marks(self.lattice, ("pairing", ONE, ("lot", 0, 2)))), [6, 2, 3, 1])
        self.assertEqual(list(kind_marks(self.lattice, ("pairing", ONE, ("named", 3)))), [6, 0, 0, 0])
        self.assertEqual(list(kind_marks(self.lattice, ("pairing", ("named", 3), ONE))), [6, 0, 0, 0])
        self.assertEqual(list(kind_marks(self.lattice, ("pairing", HAND, ("named", 2)))), [2, 0, 2, 0])

    def test_exactly_the_limit(self):
        self.assertEqual(list(kind_marks(self.lattice, HUGE)), [10 ** 60] * 4)
        self.assertEqual(list(kind_marks(self.lattice, ("both", ("maps", SIXTY, ONE), ("named", 1))))[0], 3 ** 60)
        half = ("maps", ("both", ("named", 3), TEN), TEN)
        self.assertEqual(list(kind_marks(self.lattice, ("both", half, half)))[3], 10 ** 60)

    def test_one_more_than_the_limit(self):
        self.too_many(OVER, OVER)
        self.too_many(("both", ("named", 0), OVER), OVER)
        self.too_many(("both", OVER, ("named", 0)), OVER)
        self.too_many(("both", HUGE, ("named", 2)), ("both", HUGE, ("named", 2)))
        self.too_many(("maps", SIXTY, ("either", TEN, ("named", 1))), ("maps", SIXTY, ("either", TEN, ("named", 1))))
        self.too_many(("maps", ("named", 2), HUGE), ("maps", ("named", 2), HUGE))
        self.too_many(("maps", HUNDRED, HUGE), ("maps", HUNDRED, HUGE))
        self.too_many(("pairing", HUNDRED, HUNDRED), ("pairing", HUNDRED, HUNDRED))
        self.too_many(("pairing", ("both", ("named", 5), TEN), ("both", TEN, ("named", 5))),
                      ("pairing", ("both", ("named", 5), TEN), ("both", TEN, ("named", 5))))

    def test_what_must_be_listed(self):
        big = ("both", WEB, ("both", HAND, ("named", 7)))
        self.assertEqual(list(kind_marks(self.lattice, big)), self.slow((3,), big))
        for kind in (("lots", big, 1), ("maps", big, ONE), ("pairing", big, ONE), ("pairing", ONE, big),
                     ("lots", ("either", ONE, big), 0), ("maps", ("both", big, ("named", 0)), ONE),
                     ("lots", ("maps", HAND, big), 2), ("pairing", ONE, ("maps", ONE, big))):
            self.too_many(kind, big)
        # Also ahead of other kinds with too many structures.
        for kind in (("lots", big, 1), ("maps", big, ONE), ("pairing", big, ONE), ("pairing", ONE, big)):
            self.too_many(("both", kind, ("lots", MORE, 1)), big)
            self.too_many(("both", ("lots", MORE, 1), kind), MORE)
        for kind in (("either", big, big), ("both", ONE, big), ("maps", ONE, big), ("both", ("maps", ONE, big), big)):
            self.assertEqual(kind_marks(self.lattice, kind)[0] > 100, True)

    def test_a_hundred_may_be_listed(self):
        self.assertEqual(list(kind_marks(self.lattice, ("lots", HUNDRED, 9))), [1902231808400] * 4)
        self.assertEqual(list(kind_marks(self.lattice, ("maps", HUNDRED, ("named", 2)))), [2 ** 100] * 4)
        self.assertEqual(list(kind_marks(self.lattice, ("pairing", HUNDRED, ONE))), [0] * 4)
        for kind in (("lots", MORE, 1), ("maps", MORE, ("named", 1)), ("pairing", MORE, MORE), ("pairing", ONE, MORE)):
            self.too_many(kind, MORE)

    def test_first_part_with_too_many(self):
        other = ("both", HUNDRED, ("named", 2))
        self.too_many(("both", ("lots", MORE, 2), ("lots", other, 2)), MORE)
        self.too_many(("both", ("lots", other, 2), ("lots", MORE, 2)), other)
        self.too_many(("either", OVER, ("lots", MORE, 2)), OVER)
        self.too_many(("either", ("lots", MORE, 2), OVER), MORE)
        self.too_many(("maps", MORE, OVER), MORE)
        self.too_many(("maps", ONE, OVER), OVER)
        self.too_many(("pairing", ("maps", ONE, WEB), MORE), ("maps", ONE, WEB))
        self.too_many(("pairing", MORE, ("maps", ONE, WEB)), MORE)
        self.too_many(("lots", ("lots", MORE, 0), 10 - 1), MORE)

    def test_marks_at_every_group_of_a_class(self):
        lattice = Lattice(World((4,)))
        kind = ("maps", ONE, ("either", WEB, HAND))
        marks = kind_marks(lattice, kind)
        self.assertEqual(marks[0], 66 ** 4)
        space, goal = Space(lattice.world, ONE), Space(lattice.world, ("either", WEB, HAND))
        for number, group in enumerate(lattice.groups):
            expected, seen = 1, set()
            for thing in range(4):
                if thing not in seen:
                    seen |= {space.moves[member][thing] for member in group}
                    rest = tuple(member for member in group if space.moves[member][thing] == thing)
                    expected *= len(goal.fixed(rest))
            self.assertEqual(marks[lattice.class_of(number)], expected)


if __name__ == "__main__":
    unittest.main()
