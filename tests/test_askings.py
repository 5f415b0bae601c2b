"""Tests of nonames.askings (points 95 to 98)."""

import unittest
from itertools import combinations_with_replacement
from nonames.askings import breaks, least_bad, restless_askings
from nonames.errors import BadMove
from nonames.families import Family
from nonames.helpers import is_restless, lots_under
from nonames.lattices import Lattice
from nonames.plans import good_groups
from nonames.spaces import Space
from nonames.worlds import World
from slow_play import SlowFamily, slow_least_bad

SETS = [[], [("pick", 1)], [("pick", 2)], (("pick", 3), ("pick", 2)), [("pick", 2), ("pick", 2)], [("pick", 6)],
        [("make", 3, ("round", 0)), ("pick", 4)], [("make", 4, ("hand", 0))], [("make", 0, ("row", 0))]]
KINDS = [("named", 0), ("named", 1), ("one", 0), ("round", 0), ("hand", 0), ("row", 0), ("lot", 0, 2), ("web", 0)]


class AskingTest(unittest.TestCase):
    @classmethod
    def setUpClass(cls):
        cls.lattices = {sizes: Lattice(World(sizes)) for sizes in ((0,), (2,), (3,), (2, 2), (4,), (3, 2))}

    def setUp(self):
        self.lattice = self.lattices[(3,)]
        self.helpers = [("pick", 2), ("pick", 3)]

    def test_least_bad(self):
        for lattice in self.lattices.values():
            goods = [good_groups(lattice, Space(lattice.world, kind)) for kind in KINDS]
            goods += [lattice.held(number) for number in range(0, len(lattice.groups), 1 + len(lattice.groups) // 10)]
            for good in goods + [()]:
                for stand in range(len(lattice.groups)):
                    found = least_bad(lattice, stand, good)
                    self.assertIsInstance(found, tuple)
                    self.assertEqual(found, slow_least_bad(lattice, stand, good))

    def test_least_bad_of_three_things(self):
        self.assertEqual(least_bad(self.lattice, 5, (0,)), (1, 2, 3, 4))
        self.assertEqual(least_bad(self.lattice, 5, ()), (0,))
        self.assertEqual(least_bad(self.lattice, 0, ()), (0,))
        self.assertEqual(least_bad(self.lattice, 5, (0, 1, 2, 3)), (4,))
        self.assertEqual(least_bad(self.lattice, 5, (0, 1)), (2, 3, 4))
        self.assertEqual(least_bad(self.lattice, 5, (0, 1, 2, 3, 4)), (5,))
        self.assertEqual(least_bad(self.lattice, 5, (0, 1, 2, 3, 4, 5)), ())
        self.assertEqual(least_bad(self.lattice, 4, (0, 1, 2, 3)), (4,))
        self.assertEqual(least_bad(self.lattice, 1, (0, 1)), ())

    def test_breaks(self):
        self.assertIs(breaks(self.lattice, 5, (4, 1, (0,)), 4, helpers=self.helpers), True)
        self.assertIs(breaks(self.lattice, 5, (4, 1, (0,)), 5, helpers=self.helpers), True)
        self.assertIs(breaks(self.lattice, 5, (4, 1, (0,)), 2, helpers=self.helpers), False)
        self.assertIs(breaks(self.lattice, 5, (1, 0, (0,)), 3, helpers=tuple(self.helpers)), True)
        self.assertIs(breaks(self.lattice, 5, (5, 0, (5, 5)), 5, helpers=self.helpers), False)

    def test_breaks_each_group_that_is_not_kept(self):
        for sizes, stands in (((3,), range(6)), ((2, 2), range(5)), ((4,), (9, 20, 26))):
            lattice = self.lattices[sizes]
            for helpers in SETS[1:]:
                for stand in stands:
                    for asking in self.some_askings(lattice, stand, helpers):
                        slow = SlowFamily(lattice, stand, asking[0], helpers[asking[1]], asking[2])
                        for number in lattice.held(stand):
                            self.assertIs(breaks(lattice, stand, asking, number, helpers=helpers),
                                          not slow.kept(lattice.groups[number]))

    def some_askings(self, lattice, stand, helpers):
        found = [(base, k, parts[::-1]) for base in lattice.held(stand) for k, helper in enumerate(helpers)
                 for parts in lots_under(lattice, base, helper[1])[:3]]
        return found[::1 if len(lattice.groups) < 10 else 5]

    def test_what_is_no_asking(self):
        for asking in ((4, -1, (0,)), (4, 2, (0,)), (4, 99, (0,)), (4, 0, (0,)), (4, 1, ()), (4, 1, (0, 0)), (4, 1, (1,)),
                       (5, 1, (4,)), (1, 0, (2,))):
            with self.assertRaises(BadMove) as caught:
                breaks(self.lattice, 5, asking, 0, helpers=self.helpers)
            self.assertEqual(caught.exception.given, asking)
        for stand in (0, 1, 2, 3):
            # The stand does not hold the base.
            with self.assertRaises(BadMove) as caught:
                breaks(self.lattice, stand, (4, 1, (0,)), 0, helpers=self.helpers)
            self.assertEqual(caught.exception.given, (4, 1, (0,)))
        with self.assertRaises(BadMove):
            breaks(self.lattice, 5, (4, 0, (0,)), 0, helpers=[])

    def test_restless_askings_of_three_things(self):
        self.assertEqual(restless_askings(self.lattice, 5, helpers=self.helpers),
                         [(1, 0, (0,)), (4, 1, (0,)), (5, 0, (4,)), (5, 1, (1,))])
        self.assertEqual(restless_askings(self.lattice, 4, helpers=self.helpers), [(4, 1, (0,))])
        # At its own stand a group is carried to itself alone.
        self.assertEqual(restless_askings(self.lattice, 3, helpers=self.helpers), [(3, 0, (0,))])
        self.assertEqual(restless_askings(self.lattice, 0, helpers=self.helpers), [])
        self.assertEqual(restless_askings(self.lattice, 5, helpers=()), [])
        self.assertEqual(restless_askings(self.lattice, 5, helpers=[("pick", 2)] * 2),
                         [(1, 0, (0,)), (1, 1, (0,)), (5, 0, (4,)), (5, 1, (4,))])

    def test_restless_askings(self):
        for lattice in self.lattices.values():
            for helpers in SETS:
                for stand in range(0, len(lattice.groups), 1 + len(lattice.groups) // 8):
                    found = restless_askings(lattice, stand, helpers=helpers)
                    self.assertIsInstance(found, list)
                    self.assertEqual(found, sorted(set(found)))
                    slow = [(base, k, parts) for base in lattice.held(stand) for k, helper in enumerate(helpers)
                            for parts in lots_under(lattice, base, helper[1])
                            if all(lattice.carried(base, g) >= base for g in lattice.groups[stand])
                            and is_restless(lattice, base, helper, parts)]
                    self.assertEqual(found, sorted(slow))

    def test_other_askings_break_the_same_groups_or_none(self):
        for sizes, stand in (((3,), 5), ((3,), 4), ((2, 2), 4)):
            lattice = self.lattices[sizes]
            held = lattice.held(stand)
            for helpers in SETS[1:]:
                known = [self.broken(lattice, stand, asking, helpers)
                         for asking in restless_askings(lattice, stand, helpers=helpers)]
                for base in held:
                    for k, helper in enumerate(helpers):
                        lots = [parts for many in range(4) for parts in combinations_with_replacement(lattice.held(base), many)
                                if Family.fits(lattice, stand, base, helper, parts)]
                        for parts in lots:
                            self.assertIn(self.broken(lattice, stand, (base, k, parts[::-1]), helpers), known + [()])

    def broken(self, lattice, stand, asking, helpers):
        return tuple(number for number in lattice.held(stand) if breaks(lattice, stand, asking, number, helpers=helpers))

    def test_list_is_new(self):
        restless_askings(self.lattice, 5, helpers=self.helpers).clear()
        self.assertEqual(len(restless_askings(self.lattice, 5, helpers=self.helpers)), 4)
        self.assertEqual(self.helpers, [("pick", 2), ("pick", 3)])


if __name__ == "__main__":
    unittest.main()
