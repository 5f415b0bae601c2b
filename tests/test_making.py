"""Tests of nonames.making (points 133 to 135)."""

import unittest
from nonames.errors import NoRule
from nonames.making import least_renamed, make_from, own_group
from nonames.spaces import Space
from nonames.worlds import World
from slow import slow_list, slow_rename

ONE, ROW, WEB = ("one", 0), ("row", 0), ("web", 0)
KINDS = [("named", 2), ONE, ("round", 0), ("hand", 0), ROW, ("lot", 0, 2), WEB, ("tree", 0), ("either", ONE, ("hand", 0)),
         ("lots", ROW, 2), ("maps", ONE, ("hand", 0)), ("pairing", ONE, ONE)]
# More than 100 structures, but none inside.
MANY = [("lots", ("both", ROW, ("hand", 0)), 3), ("maps", ONE, WEB), ("both", ("lots", WEB, 2), ROW), ("maps", ROW, ONE)]


class MakingTest(unittest.TestCase):
    def slow(self, sizes, kind, structure):
        world = World(sizes)
        return [slow_rename(sizes, kind, structure, row) for row in world.renamings]

    def test_every_structure_of_several_kinds(self):
        for sizes in ((0,), (1,), (3,), (2, 2)):
            world = World(sizes)
            for kind in KINDS:
                for structure in slow_list(sizes, kind):
                    self.one(world, kind, structure)

    def test_structures_of_kinds_with_very_many(self):
        world = World((3,))
        for kind in MANY:
            self.assertLess(100, len(slow_list((3,), kind)))
        for structure in slow_list((3,), MANY[0])[::7]:
            self.one(world, MANY[0], structure)
        webs, rows = slow_list((3,), WEB), slow_list((3,), ROW)
        for at in range(0, 8):
            self.one(world, MANY[1], (webs[at], webs[(3 * at) % 8], webs[(at * at) % 8]))
            self.one(world, MANY[2], ((webs[at // 2], webs[7]), rows[at % 6]))
            self.one(world, MANY[3], tuple((at * k + at // 3) % 3 for k in range(6)))

    def one(self, world, kind, structure):
        renamed = self.slow(world.sizes, kind, structure)
        own = own_group(world, kind, structure)
        self.assertIsInstance(own, tuple)
        self.assertEqual(own, tuple(number for number, value in enumerate(renamed) if value == structure))
        found = least_renamed(world, kind, structure)
        self.assertIsInstance(found, tuple)
        self.assertEqual(found, (min(renamed), renamed.index(min(renamed))))

    def test_example(self):
        world = World((3,))
        self.assertEqual(own_group(world, WEB, ((0, 1),)), (0, 2))
        self.assertEqual(least_renamed(world, WEB, ((1, 2),)), (((0, 1),), 4))
        self.assertEqual(make_from(world, WEB, ((1, 2),), Space(world, ONE)), 0)
        self.assertEqual(least_renamed(world, ONE, 2), (0, 3))
        self.assertEqual(make_from(world, ONE, 2, Space(world, ("lot", 0, 2))), (0, 1))

    def test_renamed_structures_give_renamed_results(self):
        for sizes in ((3,), (2, 2), (1,)):
            world = World(sizes)
            goals = [Space(world, kind) for kind in KINDS]
            for kind in KINDS:
                structures = slow_list(sizes, kind)
                for structure in structures[::1 if len(structures) < 20 else 7]:
                    for goal in goals:
                        self.make_all(world, kind, structure, goal)

    def make_all(self, world, kind, structure, goal):
        own = own_group(world, kind, structure)
        if not goal.fixed(own):
            with self.assertRaises(NoRule) as caught:
                make_from(world, kind, structure, goal)
            self.assertEqual(caught.exception.given, own)
            return
        made = make_from(world, kind, structure, goal)
        least, number = least_renamed(world, kind, structure)
        answer = goal.structures[goal.fixed(own_group(world, kind, least))[0]]
        back = world.renamings[world.inverse(number)]
        self.assertEqual(made, slow_rename(world.sizes, goal.kind, answer, back))
        for row in world.renamings:
            self.assertEqual(make_from(world, kind, slow_rename(world.sizes, kind, structure, row), goal),
                             slow_rename(world.sizes, goal.kind, made, row))

    def test_no_rule_with_the_own_group_of_the_given_structure(self):
        world = World((3,))
        for structure, own in ((0, (0, 1)), (1, (0, 5)), (2, (0, 2))):
            with self.assertRaises(NoRule) as caught:
                make_from(world, ONE, structure, Space(world, ROW))
            self.assertEqual(caught.exception.given, own)
        with self.assertRaises(NoRule) as caught:
            make_from(world, ROW, (0, 1, 2), Space(world, ("named", 0)))
        self.assertEqual(caught.exception.given, (0,))


if __name__ == "__main__":
    unittest.main()
