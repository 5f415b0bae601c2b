"""Tests of nonames.checking (points 10 and 13)."""

import unittest
from nonames.checking import is_structure
from nonames.worlds import World
from slow import built_kinds, plain_kinds, slow_list
from slow_values import near, slow_is

WORLDS = [(0,), (1,), (3,), (0, 2), (2, 1)]
BIG = [("maps", ("web", 0), ("web", 0)), ("both", ("web", 0), ("maps", ("lot", 0, 2), ("row", 0))),
       ("pairing", ("row", 0), ("row", 0)), ("lots", ("web", 0), 5), ("either", ("web", 0), ("lots", ("row", 0), 3))]


class CheckingTest(unittest.TestCase):
    def agrees(self, world, kind, value):
        self.assertIs(is_structure(world, kind, value), slow_is(world.sizes, kind, value), (world.sizes, kind, value))

    def test_structures_and_values_near_them(self):
        for sizes in WORLDS:
            world = World(sizes)
            for kind in plain_kinds(len(sizes)) + built_kinds(len(sizes)):
                structures = slow_list(sizes, kind)
                for value in structures[:40]:
                    self.assertIs(is_structure(world, kind, value), True)
                chosen = structures[:2] + structures[len(structures) // 2:][:2] + structures[-1:]
                values = {other for value in chosen + [0, ()] for other in near(value)}
                for value in sorted(values, key=repr):
                    self.agrees(world, kind, value)

    def test_all_short_values(self):
        parts = [0, 1, 2, (), (0,), (0, 1), (1, 0), (1, 2), ((0, 1),)]
        values = parts + [(first, second) for first in parts for second in parts]
        values += [(first, second, third) for first in parts for second in parts for third in parts]
        for sizes in ((3,), (1, 2)):
            for kind in plain_kinds(len(sizes)) + [("lots", ("one", 0), 2), ("maps", ("one", 0), ("one", 0)),
                                                   ("pairing", ("one", 0), ("lot", 0, 2))]:
                for value in values:
                    self.assertIs(is_structure(World(sizes), kind, value), value in slow_list(sizes, kind))

    def test_kinds_with_more_than_a_hundred_structures(self):
        world = World((3,))
        webs, rows = slow_list((3,), ("web", 0)), slow_list((3,), ("row", 0))
        lots = slow_list((3,), ("lot", 0, 2))
        values = [tuple(webs), tuple(webs[:1] * 8), tuple(webs[::-1]), tuple(webs[:5]), tuple(rows), tuple(rows[::-1]),
                  tuple(rows[:5] + rows[:1]), (webs[2], tuple(rows[:3])), (webs[2], tuple(rows[:2])), (lots[0], rows[0]),
                  (0, webs[1]), (1, tuple(rows[1:4])), (1, tuple(rows[4:1:-1])), (0, rows[0])]
        for kind in BIG:
            known = [value for value in values if slow_is((3,), kind, value)]
            self.assertTrue(known)
            for value in values:
                self.agrees(world, kind, value)
            for value in near(known[0]):
                self.agrees(world, kind, value)
        self.assertIs(is_structure(World((4,)), ("both", ("web", 0), ("web", 0)), ((), ((0, 3),))), True)
        self.assertIs(is_structure(World((4,)), ("both", ("web", 0), ("web", 0)), ((), ((3, 0),))), False)

    def test_named(self):
        self.assertEqual([is_structure(World((1,)), ("named", 2), value) for value in (-1, 0, 1, 2, (), (0,))],
                         [False, True, True, False, False, False])

    def test_deep_values(self):
        value = 0
        for _ in range(100):
            value = (value,)
        for kind in plain_kinds(1) + built_kinds(1):
            self.assertIs(is_structure(World((3,)), kind, value), False)


if __name__ == "__main__":
    unittest.main()
