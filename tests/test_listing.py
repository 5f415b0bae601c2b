"""Tests of nonames.counting and nonames.listing (points 9 to 11)."""

import unittest
from nonames.counting import count_structures
from nonames.errors import TooMany
from nonames.kinds import check_kind
from nonames.listing import list_structures
from nonames.spaces import Space
from nonames.worlds import World
from slow import built_kinds, plain_kinds, slow_list

WORLDS = [(0,), (1,), (2,), (3,), (4,), (0, 0), (0, 2), (2, 0), (2, 1), (1, 2), (2, 2), (3, 2), (1, 4)]
TEN = ("either", ("named", 9), ("named", 1))
HUNDRED = ("both", TEN, TEN)
MORE = ("either", HUNDRED, ("named", 1))


class ListingTest(unittest.TestCase):
    def lists(self, sizes, kind, expected):
        world = World(sizes)
        self.assertEqual(list_structures(world, kind), expected)
        self.assertEqual(count_structures(world, kind), len(expected))

    def too_many(self, sizes, kind, part):
        world = World(sizes)
        for function in (count_structures, list_structures, Space):
            with self.assertRaises(TooMany) as caught:
                function(world, kind)
            self.assertEqual(caught.exception.given, part, function)

    def test_examples(self):
        self.lists((3,), ("round", 0), [(0, 1, 2), (0, 2, 1)])
        self.lists((3,), ("parts", 0, (1, 2)), [((0,), (1, 2)), ((0, 1), (2,)), ((0, 2), (1,))])

    def test_plain_kinds_in_many_worlds(self):
        for sizes in WORLDS:
            for kind in plain_kinds(len(sizes)):
                check_kind(kind, len(sizes))
                self.lists(sizes, kind, slow_list(sizes, kind))

    def test_built_kinds_in_many_worlds(self):
        for sizes in WORLDS:
            if sum(sizes) < 5 and max(sizes) < 4:
                for kind in built_kinds(len(sizes)):
                    self.lists(sizes, kind, slow_list(sizes, kind))

    def test_named(self):
        self.lists((3,), ("named", 0), [])
        self.lists((3,), ("named", 3), [0, 1, 2])

    def test_one(self):
        self.lists((2, 3), ("one", 0), [0, 1])
        self.lists((2, 3), ("one", 1), [2, 3, 4])
        self.lists((0, 1), ("one", 0), [])

    def test_lot(self):
        self.lists((3,), ("lot", 0, 0), [()])
        self.lists((0,), ("lot", 0, 0), [()])
        self.lists((3,), ("lot", 0, 2), [(0, 1), (0, 2), (1, 2)])
        self.lists((3,), ("lot", 0, 4), [])
        self.lists((1, 2), ("lot", 1, 2), [(1, 2)])

    def test_row(self):
        self.lists((1, 2), ("row", 1), [(1, 2), (2, 1)])
        self.lists((0,), ("row", 0), [()])
        self.lists((1,), ("row", 0), [(0,)])

    def test_round(self):
        self.lists((0,), ("round", 0), [()])
        self.lists((1,), ("round", 0), [(0,)])
        self.lists((2,), ("round", 0), [(0, 1)])
        self.lists((1, 3), ("round", 1), [(1, 2, 3), (1, 3, 2)])
        self.assertEqual(count_structures(World((4,)), ("round", 0)), 6)

    def test_hand(self):
        self.lists((0,), ("hand", 0), [0])
        self.lists((1,), ("hand", 0), [0])
        self.lists((2,), ("hand", 0), [0, 1])
        self.lists((2, 1), ("hand", 1), [0])

    def test_parts(self):
        self.lists((4,), ("parts", 0, (2, 2)), [((0, 1), (2, 3)), ((0, 2), (1, 3)), ((0, 3), (1, 2))])
        self.lists((1, 2), ("parts", 1, (1, 1)), [((1,), (2,))])
        self.lists((0,), ("parts", 0, (1,)), [])
        self.lists((3,), ("parts", 0, (1, 1)), [])
        self.lists((3,), ("parts", 0, (4,)), [])

    def test_web(self):
        self.lists((0,), ("web", 0), [()])
        self.lists((1,), ("web", 0), [()])
        self.lists((3,), ("web", 0), [(), ((0, 1),), ((0, 1), (0, 2)), ((0, 1), (0, 2), (1, 2)), ((0, 1), (1, 2)),
                                      ((0, 2),), ((0, 2), (1, 2)), ((1, 2),)])
        self.assertEqual(count_structures(World((4,)), ("web", 0)), 64)

    def test_tree(self):
        self.lists((0,), ("tree", 0), [])
        self.lists((1,), ("tree", 0), [()])
        self.lists((2,), ("tree", 0), [((0, 1),)])
        self.lists((3,), ("tree", 0), [((0, 1), (0, 2)), ((0, 1), (1, 2)), ((0, 2), (1, 2))])
        self.assertEqual(count_structures(World((4,)), ("tree", 0)), 16)

    def test_built_kinds(self):
        one, two = ("one", 0), ("named", 2)
        self.lists((1, 1), ("either", ("one", 1), two), [(0, 1), (1, 0), (1, 1)])
        self.lists((2,), ("both", one, two), [(0, 0), (0, 1), (1, 0), (1, 1)])
        self.lists((3,), ("lots", one, 2), [(0, 1), (0, 2), (1, 2)])
        self.lists((3,), ("lots", one, 0), [()])
        self.lists((1,), ("lots", one, 2), [])
        self.lists((2,), ("maps", one, ("named", 3)), [(first, second) for first in range(3) for second in range(3)])
        self.lists((0,), ("maps", one, two), [()])
        self.lists((0,), ("maps", one, one), [()])
        self.lists((2,), ("maps", two, ("named", 0)), [])
        self.lists((2,), ("pairing", one, two), [(0, 1), (1, 0)])
        self.lists((2,), ("pairing", one, ("named", 3)), [])
        self.lists((2,), ("pairing", ("named", 3), one), [])
        self.lists((0,), ("pairing", one, ("named", 0)), [()])

    def test_exactly_a_hundred(self):
        self.lists((0,), HUNDRED, slow_list((0,), HUNDRED))
        self.assertEqual(count_structures(World((2,)), HUNDRED), 100)
        self.assertEqual(Space(World((2,)), HUNDRED).size, 100)
        self.assertEqual(count_structures(World((0,)), ("maps", ("named", 2), TEN)), 100)
        self.assertEqual(count_structures(World((0,)), ("maps", HUNDRED, ("named", 1))), 1)
        self.assertEqual(count_structures(World((0,)), ("maps", HUNDRED, ("named", 0))), 0)
        self.assertEqual(len(list_structures(World((0,)), ("lots", HUNDRED, 1))), 100)
        self.assertEqual(list_structures(World((0,)), ("pairing", HUNDRED, TEN)), [])

    def test_a_hundred_and_one(self):
        self.too_many((0,), MORE, MORE)
        self.too_many((3,), ("lots", HUNDRED, 2), ("lots", HUNDRED, 2))
        self.too_many((3,), ("maps", ("named", 7), ("named", 2)), ("maps", ("named", 7), ("named", 2)))
        self.too_many((3,), ("pairing", ("named", 5), ("named", 5)), ("pairing", ("named", 5), ("named", 5)))
        self.too_many((4,), ("both", ("web", 0), ("hand", 0)), ("both", ("web", 0), ("hand", 0)))
        self.too_many((0,), ("maps", HUNDRED, HUNDRED), ("maps", HUNDRED, HUNDRED))
        self.too_many((0,), ("pairing", HUNDRED, HUNDRED), ("pairing", HUNDRED, HUNDRED))
        self.assertEqual(count_structures(World((3,)), ("maps", ("named", 6), ("named", 2))), 64)

    def test_first_part_with_too_many(self):
        big = ("lots", HUNDRED, 2)
        other = ("maps", ("named", 9), ("named", 9))
        inside = ("both", ("named", 0), big)
        # The inner kinds come before the kind that is built of them, also if that one has few.
        self.too_many((2,), inside, big)
        self.too_many((2,), ("both", big, ("named", 0)), big)
        self.too_many((2,), ("lots", other, 0), other)
        self.too_many((2,), ("both", other, big), other)
        self.too_many((2,), ("both", big, other), big)
        self.too_many((2,), ("either", ("both", other, ("named", 1)), big), other)
        self.too_many((2,), ("either", ("lots", MORE, 3), other), MORE)
        self.too_many((2,), ("pairing", ("both", HUNDRED, HUNDRED), MORE), ("both", HUNDRED, HUNDRED))

    def test_returned_list_changed_by_the_caller(self):
        world = World((3,))
        for kind in (("one", 0), ("web", 0), ("both", ("one", 0), ("one", 0))):
            first = list_structures(world, kind)
            first.append(5)
            first[0] = None
            self.assertEqual(list_structures(world, kind), slow_list((3,), kind))


if __name__ == "__main__":
    unittest.main()
