"""Tests of nonames.sizes (points 107 to 111)."""

import unittest
from itertools import combinations
from nonames.helped import first_help, unhelped_groups
from nonames.lattices import Lattice
from nonames.plans import good_groups
from nonames.sizes import least_sizes, needless_sizes, reachable_sizes, sizes_enough, unmet_group
from nonames.spaces import Space
from nonames.worlds import World

WORLDS = [(0,), (1,), (2,), (3,), (4,), (2, 2), (3, 2), (0, 3)]
KINDS = [("named", 0), ("named", 1), ("one", 0), ("round", 0), ("hand", 0), ("row", 0), ("lot", 0, 2), ("web", 0)]


class SizeTest(unittest.TestCase):
    @classmethod
    def setUpClass(cls):
        cls.lattices = {sizes: Lattice(World(sizes)) for sizes in WORLDS}
        # Whether each size helps each group, from the helpers themselves.
        cls.helps = {sizes: [tuple(size for size in range(1, 13) if first_help(lattice, number, [("pick", size)]))
                             for number in range(len(lattice.groups))] for sizes, lattice in cls.lattices.items()}

    def setUp(self):
        self.lattice = self.lattices[(3,)]
        self.everything = (0, 1, 2, 3, 4, 5)

    def test_example(self):
        self.assertEqual([reachable_sizes(self.lattice, 4), unmet_group(self.lattice, self.everything, (0,), [2]),
                          needless_sizes(self.lattice, [4, 3, 2]), least_sizes(self.lattice, self.everything, (0,), top=6)],
                         [(3, 6, 9, 12), 4, (2, 4), [(6,), (2, 3), (3, 4)]])

    def test_reachable_sizes(self):
        for sizes, lattice in self.lattices.items():
            for number in range(len(lattice.groups)):
                helps = self.helps[sizes][number]
                found = reachable_sizes(lattice, number)
                self.assertIsInstance(found, tuple)
                self.assertEqual(found, helps)
                for top in (0, 1, 2, 5, 11, 12):
                    self.assertEqual(reachable_sizes(lattice, number, top=top), tuple(size for size in helps if size <= top))

    def test_reachable_sizes_of_three_things(self):
        self.assertEqual([reachable_sizes(self.lattice, number) for number in (0, 1, 5)],
                         [(), (2, 4, 6, 8, 10, 12), (2, 3, 4, 5, 6, 7, 8, 9, 10, 11, 12)])

    def lots_of_groups(self, lattice):
        """Tuples of groups that contain, with each group, all groups that it holds."""
        found = {good_groups(lattice, Space(lattice.world, kind)) for kind in KINDS}
        found |= {lattice.held(number) for number in range(0, len(lattice.groups), 1 + len(lattice.groups) // 6)}
        found |= {unhelped_groups(lattice, [("pick", size)]) for size in (2, 3, 4)}
        return sorted(found | {tuple(range(len(lattice.groups)))})

    def slow_unmet(self, sizes, start, goal, lot):
        unmet = [number for number in start if number not in goal and not set(self.helps[sizes][number]) & set(lot)]
        return unmet[0] if unmet else None

    def test_unmet_group_and_sizes_enough(self):
        lots = [(), [], [1], (2,), [3], (3, 2), [2, 3, 2], [12], (6, 1), [4, 9, 4], (12, 11, 10, 9, 8, 7, 6, 5, 4, 3, 2, 1), [5, 5]]
        for sizes, lattice in self.lattices.items():
            for start in self.lots_of_groups(lattice):
                for goal in self.lots_of_groups(lattice):
                    for lot in lots:
                        unmet = self.slow_unmet(sizes, start, goal, lot)
                        self.assertEqual(unmet_group(lattice, start, goal, lot), unmet)
                        self.assertIs(sizes_enough(lattice, start, goal, lot), unmet is None)

    def test_starts_and_goals_that_are_equal_or_empty(self):
        for groups in ((), (0,), (0, 1), self.everything):
            self.assertIs(sizes_enough(self.lattice, groups, groups, []), True)
            self.assertIs(sizes_enough(self.lattice, (), groups, ()), True)
            self.assertEqual(least_sizes(self.lattice, groups, groups), [()])
            self.assertEqual(least_sizes(self.lattice, (), groups, top=0), [()])
        self.assertEqual(unmet_group(self.lattice, self.everything, (), list(range(1, 13))), 0)
        self.assertEqual(least_sizes(self.lattice, self.everything, ()), [])
        self.assertEqual(least_sizes(self.lattice, (0,), ()), [])
        self.assertIsNone(unmet_group(self.lattice, (0, 1), self.everything, []))

    def slow_least(self, sizes, start, goal, top):
        found = []
        for many in range(top + 1):
            for lot in combinations(range(2, top + 1), many):
                left = [lot[:at] + lot[at + 1:] for at in range(many)]
                if self.slow_unmet(sizes, start, goal, lot) is None and not any(
                        self.slow_unmet(sizes, start, goal, other) is None for other in left):
                    found.append(lot)
        return found

    def test_least_sizes(self):
        for sizes, lattice in self.lattices.items():
            lots = self.lots_of_groups(lattice)
            for start in lots[-3:]:
                for goal in lots[::2]:
                    for top in (0, 1, 2, 6, 7):
                        found = least_sizes(lattice, start, goal, top=top)
                        self.assertIsInstance(found, list)
                        self.assertEqual(found, self.slow_least(sizes, start, goal, top))
        for sizes in ((3,), (2, 2), (4,)):
            lattice = self.lattices[sizes]
            everything = tuple(range(len(lattice.groups)))
            self.assertEqual(least_sizes(lattice, everything, (0,)), self.slow_least(sizes, everything, (0,), 12))
            self.assertEqual(least_sizes(lattice, everything, (0,), top=12), least_sizes(lattice, everything, (0,)))

    def test_order_of_least_sizes(self):
        found = least_sizes(self.lattice, self.everything, (0,))
        self.assertEqual(found, sorted(found, key=lambda lot: (len(lot), lot)))
        self.assertEqual(found[:4], [(6,), (12,), (2, 3), (2, 9)])
        self.assertEqual(least_sizes(self.lattice, self.everything, (0, 1, 2, 3)), [(3,), (6,), (9,), (12,)])

    def test_sizes_up_to_twelve(self):
        # Only the group of all renamings is left; all sizes from 2 on help it.
        self.assertEqual(least_sizes(self.lattice, self.everything, (0, 1, 2, 3, 4)), [(size,) for size in range(2, 13)])
        self.assertEqual(least_sizes(self.lattice, self.everything, (0, 1, 2, 3, 4), top=4), [(2,), (3,), (4,)])

    def test_no_lot_is_enough(self):
        self.assertEqual(least_sizes(self.lattice, self.everything, (0,), top=2), [])
        self.assertEqual(least_sizes(self.lattice, self.everything, (0,), top=1), [])
        self.assertEqual(least_sizes(self.lattice, self.everything, (0,), top=3), [(2, 3)])

    def test_needless_sizes(self):
        for sizes, lattice in self.lattices.items():
            for lot in ((), [1], (2,), [2, 2], [4, 2], [3, 9, 3], (6, 3, 2), [12, 6, 1], list(range(1, 13)), (5, 7), [11, 3, 4]):
                slow = []
                for size in sorted(set(lot)):
                    helped = [helps for helps in self.helps[sizes] if size in helps]
                    if all(any(other in helps for other in lot if other != size) for helps in helped):
                        slow.append(size)
                found = needless_sizes(lattice, lot)
                self.assertIsInstance(found, tuple)
                self.assertEqual(found, tuple(slow))

    def test_needless_sizes_of_three_things(self):
        # Two sizes can make each other needless; a size does not make itself needless; 1 helps no group.
        self.assertEqual(needless_sizes(self.lattice, (2, 4)), (2, 4))
        self.assertEqual(needless_sizes(self.lattice, [2, 2]), ())
        self.assertEqual(needless_sizes(self.lattice, [1]), (1,))
        self.assertEqual(needless_sizes(self.lattice, [3, 2, 1, 1]), (1,))
        self.assertEqual(needless_sizes(self.lattice, [6, 3, 2]), (2, 3, 6))
        self.assertEqual(needless_sizes(self.lattices[(1,)], [7, 2, 7]), (2, 7))

    def test_lists_of_the_caller(self):
        sizes = [3, 2, 3]
        unmet_group(self.lattice, self.everything, (0,), sizes)
        needless_sizes(self.lattice, sizes)
        self.assertEqual(sizes, [3, 2, 3])
        least_sizes(self.lattice, self.everything, (0,)).clear()
        self.assertEqual(len(least_sizes(self.lattice, self.everything, (0,), top=6)), 3)

    def test_somewhat_beyond_the_limits(self):
        self.assertEqual(reachable_sizes(self.lattice, 4, top=15), (3, 6, 9, 12, 15))
        self.assertEqual(reachable_sizes(self.lattice, 4, top=-1), ())
        self.assertEqual(least_sizes(self.lattice, self.everything, (0,), top=-1), [])
        self.assertIs(sizes_enough(self.lattice, self.everything, (0,), [18, 0, -1]), True)


if __name__ == "__main__":
    unittest.main()
