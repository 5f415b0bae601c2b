"""Tests of nonames.tables (points 112 and 113)."""

import unittest
from nonames.errors import BadKind, BadWorld, TooMany
from nonames.helped import covers
from nonames.lattices import Lattice
from nonames.plans import good_groups
from nonames.sizes import least_sizes, sizes_enough
from nonames.spaces import Space
from nonames.tables import choice_table, goal_table, helper_table, joined_sizes, start_table
from nonames.worlds import World

KINDS = [("named", 0), ("named", 1), ("one", 0), ("round", 0), ("hand", 0), ("row", 0), ("lot", 0, 2), ("web", 0)]
MORE = ("both", ("web", 0), ("web", 0))


class TableTest(unittest.TestCase):
    @classmethod
    def setUpClass(cls):
        cls.lattices = {sizes: Lattice(World(sizes)) for sizes in ((0,), (2,), (3,), (2, 2), (4,))}

    def test_example(self):
        self.assertEqual([choice_table(3), choice_table(0), goal_table(World((3,)), [("round", 0)], top=6),
                          joined_sizes((3, 6), (), (2, 3))],
                         [[(3,), (6,), (9,), (12,)], [], [(('round', 0), [(2,), (4,), (6,)])], (2, 3, 6)])

    def test_goal_table(self):
        for lattice in self.lattices.values():
            world = lattice.world
            everything = tuple(range(len(lattice.groups)))
            for top in (0, 1, 2, 6, 12):
                table = goal_table(world, KINDS, top=top)
                self.assertIsInstance(table, list)
                self.assertEqual(table, [(kind, least_sizes(lattice, everything, good_groups(lattice, Space(world, kind)), top=top))
                                         for kind in KINDS])
            self.assertEqual(goal_table(world, tuple(KINDS)), goal_table(world, KINDS, top=12))

    def test_goal_table_of_no_kinds_and_of_one_twice(self):
        world = World((3,))
        self.assertEqual((goal_table(world, []), goal_table(world, (), top=0)), ([], []))
        row = (("hand", 0), [(2,), (4,)])
        self.assertEqual(goal_table(world, [("hand", 0), ("named", 1), ("hand", 0)], top=4), [row, (("named", 1), [()]), row])
        self.assertEqual(goal_table(world, [("named", 0)]), [(("named", 0), [])])

    def test_goal_table_raises_what_a_space_raises(self):
        world = World((4,))
        for error, kind, given in ((BadKind, ("one", 1), ("one", 1)), (BadKind, 7, 7), (TooMany, MORE, MORE),
                                   (BadKind, ("both", MORE, ("one", 1)), ("one", 1))):
            with self.assertRaises(error) as caught:
                goal_table(world, [("one", 0), kind, ("nothing", 0)])
            self.assertEqual(caught.exception.given, given)

    def test_choice_table(self):
        self.assertEqual(choice_table(1), [()])
        self.assertEqual(choice_table(1, top=0), [()])
        self.assertEqual(choice_table(2), [(2,), (4,), (6,), (8,), (10,), (12,)])
        self.assertEqual(choice_table(3, top=8), [(3,), (6,)])
        self.assertEqual((choice_table(2, top=1), choice_table(0, top=12)), ([], []))
        for size in range(5):
            for top in (0, 2, 5, 12):
                self.assertEqual(choice_table(size, top=top), goal_table(World((size,)), [("one", 0)], top=top)[0][1])
        for lot in choice_table(4):
            self.assertIs(sizes_enough(self.lattices[(4,)], tuple(range(30)),
                                       good_groups(self.lattices[(4,)], Space(World((4,)), ("one", 0))), lot), True)

    def test_choice_table_of_no_world(self):
        for size in (-1, 5, 100):
            with self.assertRaises(BadWorld) as caught:
                choice_table(size)
            self.assertEqual(caught.exception.given, (size,))

    def test_start_table(self):
        for sizes in ((0,), (3,), (2, 2), (4,)):
            lattice = self.lattices[sizes]
            world = lattice.world
            for source in KINDS + [("either", ("one", 0), ("round", 0)), ("lots", ("one", 0), 2)]:
                space = Space(world, source)
                for goal in KINDS[:6]:
                    for top in (0, 6):
                        slow = []
                        for orbit in space.orbits():
                            start = [n for n, group in enumerate(lattice.groups) if orbit[0] in space.fixed(group)]
                            slow.append((orbit[0], least_sizes(lattice, tuple(start), good_groups(lattice, Space(world, goal)),
                                                               top=top)))
                        self.assertEqual(start_table(lattice, space, Space(world, goal), top=top), slow)

    def test_start_table_of_several_orbits_and_of_none(self):
        lattice = self.lattices[(3,)]
        world = lattice.world
        web, one = Space(world, ("web", 0)), Space(world, ("one", 0))
        self.assertEqual(start_table(lattice, web, one, top=6), [(0, [(3,), (6,)]), (1, [()]), (2, [()]), (3, [(3,), (6,)])])
        self.assertEqual(start_table(lattice, web, one), start_table(lattice, web, one, top=12))
        self.assertEqual(start_table(lattice, Space(world, ("named", 0)), one), [])
        self.assertEqual(start_table(lattice, one, Space(world, ("named", 0)), top=12), [(0, [])])

    def test_helper_table(self):
        helpers = [("pick", 1), ("pick", 2), ("pick", 3), ("make", 3, ("round", 0)), ("make", 4, ("hand", 0)), ("pick", 6),
                   ("make", 3, ("row", 0)), ("make", 0, ("row", 0)), ("pick", 2)]
        for lattice in self.lattices.values():
            table = helper_table(lattice, helpers, top=6)
            self.assertEqual([helper for helper, _ in table], helpers)
            for helper, lots in table:
                for lot in lots:
                    picks = [("pick", size) for size in lot]
                    self.assertTrue(covers(lattice, picks, [helper]))
                    for at in range(len(picks)):
                        self.assertFalse(covers(lattice, picks[:at] + picks[at + 1:], [helper]))
            self.assertEqual(helper_table(lattice, tuple(helpers), top=6), table)
            self.assertEqual(helper_table(lattice, helpers), helper_table(lattice, helpers, top=12))
            self.assertEqual((helper_table(lattice, []), helper_table(lattice, (), top=0)), ([], []))

    def test_helper_table_of_three_things(self):
        lattice = self.lattices[(3,)]
        self.assertEqual(helper_table(lattice, [("pick", 1), ("make", 3, ("row", 0)), ("make", 3, ("round", 0))], top=6),
                         [(("pick", 1), [()]), (("make", 3, ("row", 0)), [(6,), (2, 3), (3, 4)]),
                          (("make", 3, ("round", 0)), [(2,), (4,), (6,)])])
        self.assertEqual(helper_table(lattice, [("pick", 3)], top=2), [(("pick", 3), [])])
        self.assertEqual(helper_table(lattice, [("pick", 3), ("pick", 1)], top=0), [(("pick", 3), []), (("pick", 1), [()])])

    def test_sizes_up_to_twelve(self):
        lattice = self.lattices[(3,)]
        world = lattice.world
        lots = [(size,) for size in range(2, 13)]
        goal = ("either", ("one", 0), ("round", 0))
        self.assertEqual(goal_table(world, [goal]), [(goal, lots)])
        self.assertEqual(start_table(lattice, Space(world, ("named", 1)), Space(world, goal)), [(0, lots)])
        self.assertEqual(helper_table(lattice, [("pick", 5)]), [(("pick", 5), lots)])

    def test_joined_sizes(self):
        self.assertEqual((joined_sizes(), joined_sizes(()), joined_sizes([], [])), ((), (), ()))
        self.assertEqual(joined_sizes([3, 2], (2, 12), [3]), (2, 3, 12))
        self.assertEqual(joined_sizes((2, 2)), (2,))
        lot = [4, 2]
        joined_sizes(lot)
        self.assertEqual(lot, [4, 2])

    def test_joined_sizes_are_enough_for_both_ways(self):
        lattice = self.lattices[(4,)]
        everything = tuple(range(30))
        middle = good_groups(lattice, Space(lattice.world, ("one", 0)))
        goal = good_groups(lattice, Space(lattice.world, ("row", 0)))
        for first in least_sizes(lattice, everything, middle, top=6):
            for second in least_sizes(lattice, middle, goal, top=6):
                self.assertTrue(sizes_enough(lattice, everything, goal, joined_sizes(first, second)))


if __name__ == "__main__":
    unittest.main()
