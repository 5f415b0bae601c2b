"""Tests of nonames.lattices and nonames.cosets (points 18, 19 and 41)."""

import unittest
from nonames.cosets import coset_of, cosets_in
from nonames.errors import BadGroup
from nonames.groups import all_groups, carried_group, generated
from nonames.lattices import Lattice
from nonames.worlds import World

WORLDS = [(0,), (1,), (3,), (4,), (2, 1), (2, 2), (3, 2), (3, 3)]


class LatticeTest(unittest.TestCase):
    def test_example(self):
        lattice = Lattice(World((3,)))
        self.assertEqual(
            [lattice.groups, lattice.classes, lattice.join(1, 2), lattice.meet(4, 5), lattice.ratio(5, 4)],
            [((0,), (0, 1), (0, 2), (0, 5), (0, 3, 4), (0, 1, 2, 3, 4, 5)), ((0,), (1, 2, 3), (4,), (5,)), 5, 4, 2])

    def test_groups_and_numbers(self):
        for sizes in WORLDS:
            world = World(sizes)
            lattice = Lattice(world)
            self.assertIs(lattice.world, world)
            self.assertEqual(lattice.groups, tuple(all_groups(world)))
            for number, group in enumerate(lattice.groups):
                self.assertEqual((lattice.number(group), lattice.number(list(group))), (number, number))

    def test_bad_group(self):
        lattice = Lattice(World((3,)))
        for group in ((), (1,), (1, 0), (0, 3), (0, 6), (0, 1, 1)):
            for given in (group, list(group)):
                with self.assertRaises(BadGroup) as caught:
                    lattice.number(given)
                self.assertEqual(caught.exception.given, group)
                self.assertIsInstance(caught.exception.given, tuple)

    def test_classes(self):
        for sizes in WORLDS:
            lattice = Lattice(World(sizes))
            numbers = range(len(lattice.groups))
            for number in numbers:
                group = lattice.groups[number]
                lot = sorted({lattice.groups.index(carried_group(lattice.world, group, renaming))
                              for renaming in range(lattice.world.order)})
                place = lattice.class_of(number)
                self.assertEqual(lattice.classes[place], tuple(lot))
                self.assertEqual(lattice.first_of(place), lot[0])
            self.assertEqual(sorted(number for lot in lattice.classes for number in lot), list(numbers))
            self.assertEqual(list(lattice.classes), sorted(lattice.classes))

    def test_carried(self):
        for sizes in ((3,), (4,), (3, 2)):
            lattice = Lattice(World(sizes))
            for number, group in enumerate(lattice.groups):
                for renaming in range(lattice.world.order):
                    self.assertEqual(lattice.groups[lattice.carried(number, renaming)],
                                     carried_group(lattice.world, group, renaming))

    def test_holds_meet_join_and_ratio(self):
        for sizes in WORLDS:
            lattice = Lattice(World(sizes))
            groups = lattice.groups
            for first, left in enumerate(groups):
                below = tuple(at for at, group in enumerate(groups) if set(group) <= set(left))
                self.assertEqual(lattice.held(first), below)
                for second, right in enumerate(groups):
                    self.assertIs(lattice.holds(first, second), set(right) <= set(left))
                    self.assertEqual(groups[lattice.meet(first, second)], tuple(sorted(set(left) & set(right))))
                    if second % 5 == 0:
                        self.assertEqual(groups[lattice.join(first, second)], generated(lattice.world, left + right))
                    if second in below:
                        self.assertEqual(lattice.ratio(first, second) * len(right), len(left))

    def test_coset_of(self):
        world = World((3,))
        self.assertEqual([coset_of(world, (0, 1), number) for number in range(6)],
                         [(0, 1), (0, 1), (2, 3), (2, 3), (4, 5), (4, 5)])

    def test_cosets_in(self):
        world = World((3,))
        everything = (0, 1, 2, 3, 4, 5)
        self.assertEqual(cosets_in(world, (0, 1), everything), [(0, 1), (2, 3), (4, 5)])
        self.assertEqual(cosets_in(world, everything, everything), [everything])
        self.assertEqual(cosets_in(world, (0,), (0, 3, 4)), [(0,), (3,), (4,)])
        for sizes in ((4,), (3, 2)):
            lattice = Lattice(World(sizes))
            for number, group in enumerate(lattice.groups):
                for part in lattice.held(number):
                    slow = {tuple(sorted(lattice.world.then(member, other) for member in lattice.groups[part]))
                            for other in group}
                    self.assertEqual(cosets_in(lattice.world, lattice.groups[part], group), sorted(slow))


if __name__ == "__main__":
    unittest.main()
