"""Tests of nonames.helped (points 72 to 74)."""

import unittest
from nonames.helped import covers, first_help, uncovered, unhelped_groups
from nonames.helpers import restless_lot
from nonames.lattices import Lattice
from nonames.worlds import World

SETS = [
    [], [("pick", 1)], [("pick", 2)], [("pick", 3)], [("pick", 2), ("pick", 3)], [("pick", 3), ("pick", 2)],
    [("pick", 4)], [("pick", 6)], [("pick", 12)], [("make", 3, ("round", 0))], [("make", 4, ("hand", 0)), ("pick", 3)],
    [("make", 4, ("tree", 0))], [("make", 4, ("parts", 0, (2, 2)))], [("make", 2, ("row", 0)), ("make", 2, ("row", 0))],
    [("make", 0, ("row", 0))], [("make", 4, ("named", 1))],
]
WORLDS = [(0,), (1,), (2,), (3,), (4,), (2, 2), (3, 2)]


def slow_first_help(lattice, number, helpers):
    for base in range(len(lattice.groups)):
        if set(lattice.groups[base]) <= set(lattice.groups[number]):
            for k, helper in enumerate(helpers):
                parts = restless_lot(lattice, base, helper)
                if parts is not None:
                    return (base, k, parts)
    return None


class HelpedTest(unittest.TestCase):
    @classmethod
    def setUpClass(cls):
        cls.lattices = {sizes: Lattice(World(sizes)) for sizes in WORLDS}

    def setUp(self):
        self.lattice = self.lattices[(3,)]

    def test_example(self):
        three = [("pick", 3)]
        self.assertEqual([first_help(self.lattice, 5, [("pick", 3), ("pick", 2)]), unhelped_groups(self.lattice, three),
                          uncovered(self.lattice, three, [("pick", 2)])], [(1, 1, (0,)), (0, 1, 2, 3), 1])

    def test_no_helpers(self):
        for lattice in self.lattices.values():
            everything = tuple(range(len(lattice.groups)))
            for nothing in ((), []):
                self.assertEqual(unhelped_groups(lattice, nothing), everything)
                self.assertTrue(all(first_help(lattice, number, nothing) is None for number in everything))

    def test_group_of_nothing_is_unhelped(self):
        for lattice in self.lattices.values():
            for helpers in SETS:
                self.assertIn(0, unhelped_groups(lattice, helpers))
                self.assertIsNone(first_help(lattice, 0, helpers))

    def test_first_help_by_base_then_index_then_lot(self):
        two, three, six = ("pick", 2), ("pick", 3), ("pick", 6)
        # The least base wins over the index of the helper.
        self.assertEqual(first_help(self.lattice, 5, [three, two]), (1, 1, (0,)))
        self.assertEqual(first_help(self.lattice, 5, [two, three]), (1, 0, (0,)))
        self.assertEqual(first_help(self.lattice, 4, [two, three]), (4, 1, (0,)))
        # Of the helpers with the same base the least index wins, whatever the lot is.
        self.assertEqual(first_help(self.lattice, 5, [six, two]), (1, 0, (0, 0, 0)))
        self.assertEqual(first_help(self.lattice, 5, [("pick", 4), two]), (1, 0, (0, 0)))
        self.assertEqual(first_help(self.lattice, 5, [two, six]), (1, 0, (0,)))
        self.assertEqual(first_help(self.lattice, 4, [six, three]), (4, 0, (0, 0)))
        # The first restless lot, where there are several.
        lattice = self.lattices[(2, 2)]
        self.assertEqual(first_help(lattice, 4, [("make", 4, ("row", 0))]), (1, 0, (0, 0)))
        self.assertEqual(first_help(lattice, 4, [("make", 3, ("row", 0))]), (1, 0, (0, 1)))
        self.assertEqual(first_help(self.lattice, 5, [("make", 3, ("round", 0))]), (1, 0, (0, 1)))

    def test_one_helper_twice(self):
        twice = [("pick", 2), ("pick", 2)]
        self.assertEqual(first_help(self.lattice, 5, twice), (1, 0, (0,)))
        self.assertEqual(first_help(self.lattice, 5, [("pick", 1)] + twice), (1, 1, (0,)))
        self.assertEqual(unhelped_groups(self.lattice, twice), unhelped_groups(self.lattice, twice[:1]))

    def test_list_and_tuple(self):
        for helpers in SETS:
            for number in range(6):
                self.assertEqual(first_help(self.lattice, number, tuple(helpers)),
                                 first_help(self.lattice, number, helpers))
            self.assertEqual(unhelped_groups(self.lattice, tuple(helpers)), unhelped_groups(self.lattice, helpers))
            self.assertEqual(uncovered(self.lattice, tuple(helpers), (("pick", 2),)),
                             uncovered(self.lattice, helpers, [("pick", 2)]))

    def test_first_help_in_many_worlds(self):
        for lattice in self.lattices.values():
            for helpers in SETS:
                unhelped = unhelped_groups(lattice, helpers)
                self.assertIsInstance(unhelped, tuple)
                for number in range(0, len(lattice.groups), 1 if len(lattice.groups) < 20 else 4):
                    found = first_help(lattice, number, helpers)
                    self.assertEqual(found, slow_first_help(lattice, number, helpers))
                    self.assertEqual(number in unhelped, found is None)
                self.assertEqual(list(unhelped), sorted(unhelped))

    def test_uncovered_and_covers_both_ways(self):
        two, three = [("pick", 2)], [("pick", 3)]
        self.assertEqual((uncovered(self.lattice, two, three), uncovered(self.lattice, three, two)), (4, 1))
        self.assertIs(covers(self.lattice, two, three), False)
        self.assertIs(covers(self.lattice, three, two), False)
        self.assertIs(covers(self.lattice, two + three, three), True)
        self.assertIs(covers(self.lattice, three, two + three), False)
        self.assertIsNone(uncovered(self.lattice, two + three, two))
        self.assertIs(covers(self.lattice, [], []), True)
        self.assertIs(covers(self.lattice, [], [("pick", 1)]), True)
        self.assertIs(covers(self.lattice, [], two), False)

    def test_uncovered_in_many_worlds(self):
        for sizes in ((2,), (3,), (2, 2)):
            lattice = self.lattices[sizes]
            unhelped = [unhelped_groups(lattice, helpers) for helpers in SETS]
            for helpers, by_helpers in zip(SETS, unhelped):
                for others, by_others in zip(SETS, unhelped):
                    left = [number for number in by_helpers if number not in by_others]
                    self.assertEqual(uncovered(lattice, helpers, others), left[0] if left else None)
                    self.assertIs(covers(lattice, helpers, others), not left)

    def test_helpers_are_not_modified(self):
        helpers = [("pick", 3), ("pick", 2)]
        first_help(self.lattice, 5, helpers)
        unhelped_groups(self.lattice, helpers)
        covers(self.lattice, helpers, helpers)
        self.assertEqual(helpers, [("pick", 3), ("pick", 2)])


if __name__ == "__main__":
    unittest.main()
