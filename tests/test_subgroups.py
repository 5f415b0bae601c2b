"""Tests of nonames.subgroups (points 49 and 50)."""

import unittest
from nonames.errors import BadGroup
from nonames.groups import all_groups
from nonames.subgroups import Group
from nonames.worlds import World
from slow import slow_closed

WORLDS = [(0,), (1,), (3,), (4,), (2, 1), (2, 2)]


class SubgroupsTest(unittest.TestCase):
    def bad(self, world, members):
        for given in (tuple(members), list(members)):
            with self.assertRaises(BadGroup) as caught:
                Group(world, given)
            self.assertEqual(caught.exception.given, tuple(members))
            self.assertIsInstance(caught.exception.given, tuple)

    def each_pair(self):
        for sizes in WORLDS:
            world = World(sizes)
            groups = [Group(world, members) for members in all_groups(world)]
            for first in groups:
                for second in groups:
                    yield world, first, second

    def test_members(self):
        world = World((3,))
        given = [0, 3, 4]
        group = Group(world, given)
        given.append(5)
        self.assertIs(group.world, world)
        self.assertEqual(group.members, (0, 3, 4))
        self.assertEqual(Group(world, (0, 3, 4)).members, (0, 3, 4))

    def test_bad_groups(self):
        world = World((3,))
        for members in ((), (1,), (1, 0), (0, 0), (0, 1, 1), (0, 3), (0, 1, 2), (3, 4), (0, 6), (-1, 0), (0, -1), (0, 10 ** 20),
                        (0, 4, 3), (5, 0)):
            self.bad(world, members)

    def test_made(self):
        for sizes in WORLDS:
            world = World(sizes)
            for first in range(world.order):
                for numbers in ([], (first,), [first, world.order - 1], (first, first)):
                    group = Group.made(world, numbers)
                    self.assertIsInstance(group, Group)
                    self.assertEqual(group.members, slow_closed(world, numbers))

    def test_meet_and_join(self):
        for world, first, second in self.each_pair():
            meet, join = first & second, first | second
            self.assertIsInstance(meet, Group)
            self.assertIsInstance(join, Group)
            self.assertEqual(meet.members, tuple(sorted(set(first.members) & set(second.members))))
            self.assertEqual((meet.world, join.world), (world, world))
            if world.order <= 6 or len(first) % 3 == 1:
                self.assertEqual(join.members, slow_closed(world, first.members + second.members))

    def test_ratio(self):
        for _, first, second in self.each_pair():
            if set(second.members) <= set(first.members):
                self.assertEqual((first // second) * len(second), len(first))
            else:
                with self.assertRaises(BadGroup) as caught:
                    first // second
                self.assertEqual(caught.exception.given, second.members)
        world = World((3,))
        self.assertEqual(Group(world, (0, 1, 2, 3, 4, 5)) // Group(world, (0, 3, 4)), 2)
        self.assertEqual(Group(world, (0, 1)) // Group(world, (0, 1)), 1)

    def test_in_and_len(self):
        for sizes in WORLDS:
            world = World(sizes)
            for members in all_groups(world):
                group = Group(world, members)
                self.assertEqual(len(group), len(members))
                for number in range(-1, world.order + 1):
                    self.assertIs(number in group, number in members)

    def test_equal_and_less(self):
        for _, first, second in self.each_pair():
            left, right = first.members, second.members
            self.assertIs(first == second, left == right)
            self.assertIs(first != second, left != right)
            self.assertIs(first < second, len(left) < len(right) or (len(left) == len(right) and left < right))

    def test_order_of_all_groups(self):
        world = World((4,))
        groups = [Group(world, members) for members in all_groups(world)]
        self.assertEqual([group.members for group in sorted(groups[::-1])], all_groups(world))
        # More members come later, whatever they are.
        self.assertTrue(Group(World((3,)), (0, 5)) < Group(World((3,)), (0, 3, 4)))
        self.assertFalse(Group(World((3,)), (0, 3, 4)) < Group(World((3,)), (0, 5)))
        self.assertTrue(Group(World((3,)), (0, 2)) < Group(World((3,)), (0, 5)))

    def test_worlds_are_not_compared(self):
        self.assertTrue(Group(World((2,)), (0, 1)) == Group(World((3, 1)), [0, 1]))
        self.assertFalse(Group(World((2,)), (0, 1)) < Group(World((3, 1)), [0, 1]))
        self.assertTrue(Group(World((2,)), (0,)) < Group(World((3, 1)), [0, 1]))

    def test_other_values(self):
        group = Group(World((3,)), (0, 1))
        for other in ((0, 1), [0, 1], 2, None, "group"):
            self.assertFalse(group == other)
            self.assertTrue(group != other)
            with self.assertRaises(TypeError):
                group < other


if __name__ == "__main__":
    unittest.main()
