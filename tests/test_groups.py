"""Tests of nonames.groups (points 16 and 17)."""

import unittest
from itertools import combinations
from nonames.groups import all_groups, carried_group, generated, is_group
from nonames.spaces import Space
from nonames.worlds import World
from slow import slow_closed, slow_groups

WORLDS = [(0,), (1,), (2,), (3,), (4,), (0, 0), (1, 1), (2, 1), (2, 2), (3, 2), (2, 3), (3, 3), (4, 1), (0, 3)]


class GroupsTest(unittest.TestCase):
    def test_generated(self):
        world = World((3,))
        self.assertEqual(generated(world, (1,)), (0, 1))
        self.assertEqual(generated(world, [3]), (0, 3, 4))
        self.assertEqual(generated(world, (1, 2)), (0, 1, 2, 3, 4, 5))
        self.assertEqual(generated(world, (0, 5, 5)), (0, 5))

    def test_generated_of_no_renaming(self):
        for sizes in WORLDS:
            self.assertEqual(generated(World(sizes), ()), (0,))
            self.assertEqual(generated(World(sizes), []), (0,))

    def test_generated_is_the_least_group(self):
        for sizes in ((3,), (4,), (2, 2), (3, 3)):
            world = World(sizes)
            for numbers in list(combinations(range(world.order), 2))[::7] + [(world.order - 1,)]:
                self.assertEqual(generated(world, numbers), slow_closed(world, numbers))
                self.assertEqual(generated(world, list(numbers)[::-1]), slow_closed(world, numbers))

    def test_is_group(self):
        world = World((3,))
        for group in slow_groups(world):
            self.assertIs(is_group(world, group), True)
            self.assertIs(is_group(world, list(group)), True)

    def test_rows_that_are_no_groups(self):
        world = World((3,))
        for row in ((1, 0), (0, 4, 3), (0, 1, 1), (0, 0), (0, 0, 1), (), (1,), (1, 2), (3, 4), (0, 3), (0, 1, 2),
                    (0, 1, 2, 5), (0, 6), (0, 1, 6), (-1, 0), (-5, 0, 1), (0, 100), (0, 1, 2, 3, 4), (-6, -5),
                    (5, 4, 3, 2, 1, 0), (0, 1, 2, 3, 4, 5, 6)):
            self.assertIs(is_group(world, row), False, row)
            self.assertIs(is_group(world, list(row)), False, row)

    def test_is_group_of_every_row(self):
        for sizes in ((3,), (2, 2), (1, 1), (0,)):
            world = World(sizes)
            groups = slow_groups(world)
            for many in range(world.order + 1):
                for row in combinations(range(world.order), many):
                    self.assertIs(is_group(world, row), row in groups)

    def test_carried_group(self):
        world = World((3,))
        self.assertEqual([carried_group(world, (0, 1), number) for number in range(6)],
                         [(0, 1), (0, 1), (0, 5), (0, 5), (0, 2), (0, 2)])
        for sizes in ((4,), (3, 2)):
            world = World(sizes)
            for group in slow_groups(world):
                for number in range(world.order):
                    slow = sorted(world.then(world.inverse(number), world.then(member, number)) for member in group)
                    self.assertEqual(carried_group(world, group, number), tuple(slow))

    def test_carried_stabilizer_is_the_one_of_the_renamed_structure(self):
        for sizes, kind in (((3,), ("web", 0)), ((4,), ("row", 0)), ((4,), ("one", 0)),
                            ((2, 2), ("both", ("one", 0), ("hand", 1)))):
            space = Space(World(sizes), kind)
            for number in range(space.size):
                for renaming in range(space.world.order):
                    self.assertEqual(carried_group(space.world, space.stabilizer(number), renaming),
                                     space.stabilizer(space.moved(number, renaming)))

    def test_stabilizers_are_groups(self):
        space = Space(World((4,)), ("web", 0))
        for number in range(space.size):
            self.assertTrue(is_group(space.world, space.stabilizer(number)))

    def test_all_groups(self):
        self.assertEqual(all_groups(World((3,))),
                         [(0,), (0, 1), (0, 2), (0, 5), (0, 3, 4), (0, 1, 2, 3, 4, 5)])
        self.assertEqual(all_groups(World((0,))), [(0,)])
        self.assertEqual(all_groups(World((2, 1))), [(0,), (0, 1)])
        self.assertEqual(all_groups(World((2, 2))), [(0,), (0, 1), (0, 2), (0, 3), (0, 1, 2, 3)])

    def test_all_groups_of_many_worlds(self):
        for sizes in WORLDS:
            world = World(sizes)
            self.assertEqual(all_groups(world), slow_groups(world), sizes)
        self.assertEqual([len(all_groups(World(sizes))) for sizes in ((4,), (3, 2), (3, 3))], [30, 16, 60])

    def test_order_of_all_groups(self):
        groups = all_groups(World((4,)))
        self.assertEqual([(len(group), group) for group in groups], sorted((len(group), group) for group in groups))

    def test_returned_list_is_new(self):
        world = World((2,))
        groups = all_groups(world)
        groups.clear()
        self.assertEqual(all_groups(world), [(0,), (0, 1)])

    def test_arguments_are_not_modified(self):
        numbers, members = [3, 1], [0, 1]
        generated(World((3,)), numbers)
        is_group(World((3,)), members)
        self.assertEqual((numbers, members), ([3, 1], [0, 1]))


if __name__ == "__main__":
    unittest.main()
