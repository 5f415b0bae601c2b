"""Tests of nonames.spaces (points 14 and 15)."""

import unittest
from nonames.errors import BadKind, BadStructure, TooMany
from nonames.moving import rename_structure
from nonames.spaces import Space
from nonames.worlds import World
from slow import built_kinds, plain_kinds, slow_list, slow_rename

TEN = ("either", ("named", 9), ("named", 1))
MORE = ("either", ("both", TEN, TEN), ("named", 1))


def spaces():
    for sizes in ((0,), (1,), (3,), (2, 2), (0, 2)):
        world = World(sizes)
        for kind in plain_kinds(len(sizes)) + built_kinds(len(sizes)):
            yield Space(world, kind)
    for sizes in ((4,), (3, 3)):
        world = World(sizes)
        for kind in plain_kinds(len(sizes)):
            yield Space(world, kind)


class SpaceTest(unittest.TestCase):
    def setUp(self):
        self.web = Space(World((3,)), ("web", 0))

    def test_example(self):
        space = self.web
        self.assertEqual([space.structures[3], space.orbits(), space.stabilizer(1), space.carrier(1, 4),
                          space.fixed((0, 1))],
                         [((0, 1), (0, 2), (1, 2)), [(0,), (1, 5, 7), (2, 4, 6), (3,)], (0, 2), None, [0, 2, 3, 7]])

    def test_attributes(self):
        world = World((2, 1))
        space = Space(world, ("both", ("one", 0), ("one", 1)))
        self.assertIs(space.world, world)
        self.assertEqual(space.kind, ("both", ("one", 0), ("one", 1)))
        self.assertEqual(space.structures, ((0, 2), (1, 2)))
        self.assertEqual((space.size, space.moves), (2, ((0, 1), (1, 0))))

    def test_bad_kind(self):
        for kind, part in ((("one", 1), ("one", 1)), (("both", ("one", 0), 5), 5), ((), ()), (7, 7), ("web", "web")):
            with self.assertRaises(BadKind) as caught:
                Space(World((3,)), kind)
            self.assertEqual(caught.exception.given, part)
        self.assertEqual(Space(World((3, 1)), ("one", 1)).structures, (3,))

    def test_too_many(self):
        with self.assertRaises(TooMany) as caught:
            Space(World((2,)), ("lots", MORE, 0))
        self.assertEqual(caught.exception.given, MORE)

    def test_bad_kind_ahead_of_too_many(self):
        with self.assertRaises(BadKind) as caught:
            Space(World((2,)), ("both", MORE, ("one", 1)))
        self.assertEqual(caught.exception.given, ("one", 1))
        with self.assertRaises(BadKind) as caught:
            Space(World((2,)), ("lots", MORE, 10))
        self.assertEqual(caught.exception.given, ("lots", MORE, 10))

    def test_structures_and_moves(self):
        for space in spaces():
            sizes, world = space.world.sizes, space.world
            self.assertEqual(list(space.structures), slow_list(sizes, space.kind))
            self.assertEqual(space.size, len(space.structures))
            self.assertEqual(len(space.moves), world.order)
            for renaming, row in enumerate(world.renamings):
                renamed = tuple(space.structures.index(slow_rename(sizes, space.kind, value, row))
                                for value in space.structures)
                self.assertEqual(space.moves[renaming], renamed)
                for number in range(space.size):
                    self.assertEqual(space.moved(number, renaming), renamed[number])

    def test_moves_of_a_great_space(self):
        world = World((3, 3))
        kind = ("lots", ("both", ("one", 0), ("one", 1)), 3)
        space = Space(world, kind)
        self.assertEqual((space.size, len(space.orbits())), (84, 6))
        for renaming in range(world.order):
            self.assertEqual([space.structures[at] for at in space.moves[renaming]],
                             [rename_structure(world, kind, value, renaming) for value in space])

    def test_iteration(self):
        for space in spaces():
            self.assertEqual(list(space), list(space.structures))
            self.assertEqual([value for value in space], sorted(space.structures))

    def test_membership(self):
        for value in slow_list((3,), ("web", 0)):
            self.assertIn(value, self.web)
        for value in (0, -1, (0,), (0, 1), ((1, 0),), ((0, 3),), ((0, 2), (0, 1)), ((0, 1), (0, 1)), (((0, 1),),)):
            self.assertNotIn(value, self.web)
        deep = ()
        for _ in range(15):
            deep = (deep, 1)
        self.assertNotIn(deep, self.web)

    def test_number(self):
        for space in spaces():
            for number, value in enumerate(space):
                self.assertEqual(space.number(value), number)

    def test_bad_structure(self):
        for value in (0, (0,), ((1, 0),), ((0, 3),), ((0, 2), (0, 1)), -5):
            with self.assertRaises(BadStructure) as caught:
                self.web.number(value)
            self.assertEqual(caught.exception.given, value)
        with self.assertRaises(BadStructure):
            Space(World((0,)), ("one", 0)).number(0)

    def test_orbits(self):
        for space in spaces():
            slow = []
            for number in range(space.size):
                orbit = tuple(other for other in range(space.size)
                              if any(row[number] == other for row in space.moves))
                if orbit not in slow:
                    slow.append(orbit)
            self.assertEqual(space.orbits(), sorted(slow))

    def test_stabilizer(self):
        self.assertEqual(self.web.stabilizer(0), (0, 1, 2, 3, 4, 5))
        for space in spaces():
            for number in range(space.size):
                self.assertEqual(space.stabilizer(number),
                                 tuple(g for g in range(space.world.order) if space.moves[g][number] == number))

    def test_carrier(self):
        self.assertEqual([self.web.carrier(1, 1), self.web.carrier(1, 5), self.web.carrier(5, 1),
                          self.web.carrier(0, 3)], [0, 1, 1, None])
        for space in spaces():
            for start in range(min(space.size, 12)):
                for goal in range(min(space.size, 12)):
                    fitting = [g for g in range(space.world.order) if space.moves[g][start] == goal]
                    self.assertEqual(space.carrier(start, goal), fitting[0] if fitting else None)

    def test_fixed(self):
        self.assertEqual(self.web.fixed(()), list(range(8)))
        self.assertEqual(self.web.fixed((0,)), list(range(8)))
        # Any renamings may be passed, also such as are no group.
        self.assertEqual(self.web.fixed((1,)), [0, 2, 3, 7])
        self.assertEqual(self.web.fixed((1, 2)), [0, 3])
        self.assertEqual(self.web.fixed((3,)), [0, 3])
        self.assertEqual(Space(World((2,)), ("one", 0)).fixed((1,)), [])

    def test_space_without_structures(self):
        space = Space(World((2,)), ("named", 0))
        self.assertEqual((space.structures, space.size, space.moves, space.orbits(), space.fixed((0,))),
                         ((), 0, ((), ()), [], []))
        self.assertEqual(list(space), [])

    def test_returned_lists_changed_by_the_caller(self):
        orbits = self.web.orbits()
        orbits.pop()
        orbits[0] = ()
        self.assertEqual(len(self.web.orbits()), 4)
        self.assertEqual(self.web.orbits()[0], (0,))
        fixed = self.web.fixed((0, 1))
        fixed.clear()
        self.assertEqual(self.web.fixed((0, 1)), [0, 2, 3, 7])


if __name__ == "__main__":
    unittest.main()
