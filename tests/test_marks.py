"""Tests of nonames.marks (points 61 to 63)."""

import unittest
from itertools import product
from nonames.cosets import coset_of, cosets_in
from nonames.errors import BadMarks
from nonames.lattices import Lattice
from nonames.marks import Marks, mark_table
from nonames.spaces import Space
from nonames.worlds import World
from slow import plain_kinds

WORLDS = [(0,), (1,), (2,), (3,), (4,), (2, 2), (3, 2), (3, 3)]


class MarksTest(unittest.TestCase):
    def setUp(self):
        self.lattice = Lattice(World((3,)))

    def bad(self, numbers):
        for given in (tuple(numbers), list(numbers)):
            with self.assertRaises(BadMarks) as caught:
                Marks(self.lattice, given)
            self.assertEqual(caught.exception.given, tuple(numbers))
            self.assertIsInstance(caught.exception.given, tuple)

    def test_attributes(self):
        numbers = [3, 1, 0, 0]
        marks = Marks(self.lattice, numbers)
        numbers[0] = 7
        numbers.append(1)
        self.assertEqual(marks.numbers, (3, 1, 0, 0))
        self.assertIsInstance(marks.numbers, tuple)
        self.assertIs(marks.lattice, self.lattice)
        self.assertEqual(Marks(self.lattice, (0, 0, 0, 0)).numbers, (0, 0, 0, 0))

    def test_wrong_number_of_numbers(self):
        self.bad(())
        self.bad((1, 2, 3))
        self.bad((1, 2, 3, 4, 5))

    def test_number_below_zero(self):
        self.bad((-1, 0, 0, 0))
        self.bad((3, 1, 0, -1))
        self.bad((-1, 0, 0))

    def test_items_and_iteration(self):
        marks = Marks(self.lattice, (5, 4, 3, 2))
        self.assertEqual([marks[place] for place in range(4)], [5, 4, 3, 2])
        self.assertEqual(list(marks), [5, 4, 3, 2])
        self.assertEqual([number for number in marks], [5, 4, 3, 2])

    def test_sum_and_product(self):
        first, second = Marks(self.lattice, (5, 4, 3, 2)), Marks(self.lattice, (1, 0, 2, 7))
        self.assertEqual(list(first + second), [6, 4, 5, 9])
        self.assertEqual(list(first * second), [5, 0, 6, 14])
        self.assertIsInstance(first + second, Marks)
        self.assertIsInstance(first * second, Marks)
        self.assertIs((first * second).lattice, self.lattice)
        self.assertEqual((first.numbers, second.numbers), ((5, 4, 3, 2), (1, 0, 2, 7)))

    def test_equality(self):
        marks = Marks(self.lattice, (3, 1, 0, 0))
        self.assertTrue(marks == Marks(self.lattice, [3, 1, 0, 0]))
        self.assertTrue(marks == Marks(Lattice(World((3,))), [3, 1, 0, 0]))
        self.assertFalse(marks == Marks(self.lattice, [3, 1, 0, 1]))
        self.assertTrue(marks != Marks(self.lattice, [3, 1, 0, 1]))
        for other in ((3, 1, 0, 0), [3, 1, 0, 0], None, 3, "marks"):
            self.assertFalse(marks == other)
            with self.assertRaises(TypeError):
                marks < other
        self.assertTrue(marks < Marks(self.lattice, [3, 1, 0, 1]) and not marks < marks)

    def test_of_space(self):
        self.assertEqual(list(Marks.of_space(self.lattice, Space(World((3,)), ("one", 0)))), [3, 1, 0, 0])
        self.assertEqual(list(Marks.of_space(self.lattice, Space(World((3,)), ("web", 0)))), [8, 4, 2, 2])
        self.assertEqual(list(Marks.of_space(self.lattice, Space(World((3,)), ("hand", 0)))), [2, 0, 2, 0])
        for sizes in WORLDS:
            lattice = Lattice(World(sizes))
            for kind in plain_kinds(len(sizes)):
                space = Space(lattice.world, kind)
                marks = Marks.of_space(lattice, space)
                for number, group in enumerate(lattice.groups):
                    alone = [at for at in range(space.size) if set(group) <= set(space.stabilizer(at))]
                    self.assertEqual(marks[lattice.class_of(number)], len(alone))

    def test_mark_table(self):
        self.assertEqual(mark_table(self.lattice), ((6, 0, 0, 0), (3, 1, 0, 0), (2, 0, 2, 0), (1, 1, 1, 1)))
        self.assertEqual(mark_table(Lattice(World((0,)))), ((1,),))
        self.assertEqual(mark_table(Lattice(World((2, 0)))), ((2, 0), (1, 1)))

    def test_mark_table_of_many_worlds(self):
        for sizes in WORLDS[:-1]:
            lattice = Lattice(World(sizes))
            world, groups = lattice.world, lattice.groups
            table = mark_table(lattice)
            self.assertIsInstance(table, tuple)
            for place, row in enumerate(table):
                self.assertIsInstance(row, tuple)
                part = groups[lattice.first_of(place)]
                cosets = cosets_in(world, part, groups[-1])
                for at, item in enumerate(row):
                    still = [coset for coset in cosets
                             if all(coset_of(world, part, world.then(coset[0], member)) == coset
                                    for member in groups[lattice.first_of(at)])]
                    self.assertEqual(item, len(still))
                    if place < at:
                        self.assertEqual(item, 0)
                self.assertNotEqual(row[place], 0)

    def test_counts_of_kinds_are_the_numbers_of_orbits(self):
        for sizes in WORLDS:
            lattice = Lattice(World(sizes))
            for kind in plain_kinds(len(sizes)):
                space = Space(lattice.world, kind)
                numbers = [0] * len(lattice.classes)
                for orbit in space.orbits():
                    numbers[lattice.class_of(lattice.number(space.stabilizer(orbit[0])))] += 1
                self.assertEqual(Marks.of_space(lattice, space).counts(), tuple(numbers))

    def test_counts(self):
        self.assertEqual(Marks(self.lattice, (0, 0, 0, 0)).counts(), (0, 0, 0, 0))
        self.assertEqual(Marks(self.lattice, (3, 1, 0, 0)).counts(), (0, 1, 0, 0))
        self.assertEqual(Marks(self.lattice, (12, 2, 3, 1)).counts(), (1, 1, 1, 1))
        table = mark_table(self.lattice)
        for counts in product(range(3), repeat=4):
            numbers = [sum(count * row[place] for count, row in zip(counts, table)) for place in range(4)]
            self.assertEqual(Marks(self.lattice, numbers).counts(), counts)

    def test_no_counts(self):
        table = mark_table(self.lattice)
        possible = {tuple(sum(count * row[place] for count, row in zip(counts, table)) for place in range(4)): counts
                    for counts in product(range(8), repeat=4)}
        for numbers in product(range(7), range(4), range(4), range(4)):
            marks = Marks(self.lattice, numbers)
            if numbers in possible:
                self.assertEqual(marks.counts(), possible[numbers])
            else:
                with self.assertRaises(BadMarks) as caught:
                    marks.counts()
                self.assertEqual(caught.exception.given, numbers)

    def test_counts_of_great_numbers(self):
        numbers = tuple(10 ** 60 * item for item in (12, 2, 3, 1))
        self.assertEqual(Marks(self.lattice, numbers).counts(), (10 ** 60,) * 4)
        with self.assertRaises(BadMarks) as caught:
            Marks(self.lattice, (10 ** 60 + 1, 0, 0, 0)).counts()
        self.assertEqual(caught.exception.given, (10 ** 60 + 1, 0, 0, 0))


if __name__ == "__main__":
    unittest.main()
