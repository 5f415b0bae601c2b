"""Tests of nonames.plans (points 75 to 78)."""

import unittest
from nonames.errors import NoPlan
from nonames.helped import first_help, unhelped_groups
from nonames.helpers import is_restless
from nonames.lattices import Lattice
from nonames.plans import find_plan, good_groups, judge_block, judge_plan
from nonames.spaces import Space
from nonames.worlds import World

SETS = [[], [("pick", 1)], [("pick", 2)], [("pick", 3)], (("pick", 3), ("pick", 2)), [("pick", 6)], [("make", 3, ("round", 0))],
        [("make", 4, ("hand", 0)), ("pick", 3)], [("make", 0, ("row", 0))], (("pick", 2), ("pick", 2))]
KINDS = [("named", 0), ("named", 1), ("one", 0), ("round", 0), ("hand", 0), ("row", 0), ("lot", 0, 2), ("web", 0)]


class PlanTest(unittest.TestCase):
    @classmethod
    def setUpClass(cls):
        cls.lattices = {sizes: Lattice(World(sizes)) for sizes in ((0,), (3,), (2, 2), (4,))}

    def setUp(self):
        self.lattice = self.lattices[(3,)]
        self.good = (0, 1, 2, 3)
        self.three = [("pick", 3)]

    def test_example(self):
        good = good_groups(self.lattice, Space(self.lattice.world, ("one", 0)))
        plan = find_plan(self.lattice, 5, good, helpers=self.three)
        self.assertEqual([good, plan, judge_block(self.lattice, 5, good, 4, helpers=[("pick", 2)])],
                         [(0, 1, 2, 3), ((4, 4, 0, (0,)), (5, 4, 0, (0,))), True])

    def test_good_groups(self):
        for lattice in self.lattices.values():
            for kind in KINDS:
                space = Space(lattice.world, kind)
                good = good_groups(lattice, space)
                self.assertIsInstance(good, tuple)
                self.assertEqual(good, tuple(number for number, group in enumerate(lattice.groups) if space.fixed(group)))
        self.assertEqual(good_groups(self.lattice, Space(self.lattice.world, ("named", 0))), ())

    def goods(self, lattice):
        for kind in KINDS:
            yield good_groups(lattice, Space(lattice.world, kind))
        for number in range(len(lattice.groups)):
            # What one group holds is not carried to itself by all renamings.
            yield lattice.held(number)

    def test_plans_from_each_start(self):
        for lattice in self.lattices.values():
            for helpers in SETS:
                unhelped = unhelped_groups(lattice, helpers)
                for good in list(self.goods(lattice))[::1 if len(lattice.groups) < 10 else 5]:
                    for start in range(0, len(lattice.groups), 1 if len(lattice.groups) < 10 else 4):
                        self.judge_one(lattice, start, good, helpers, unhelped)

    def judge_one(self, lattice, start, good, helpers, unhelped):
        wanted = [number for number in lattice.held(start) if number not in good]
        blocks = [number for number in wanted if number in unhelped]
        if blocks:
            with self.assertRaises(NoPlan) as caught:
                find_plan(lattice, start, good, helpers=helpers)
            self.assertEqual(caught.exception.given, blocks[0])
        else:
            plan = find_plan(lattice, start, good, helpers=helpers)
            self.assertIsInstance(plan, tuple)
            self.assertEqual(plan, tuple((number,) + first_help(lattice, number, helpers) for number in wanted))
            self.assertIs(judge_plan(lattice, start, good, plan, helpers=helpers), True)
        for number in range(-1, len(lattice.groups) + 1):
            self.assertIs(judge_block(lattice, start, good, number, helpers=helpers), number in blocks)

    def test_nothing_is_good(self):
        with self.assertRaises(NoPlan) as caught:
            find_plan(self.lattice, 5, (), helpers=[("pick", 2), ("pick", 3)])
        self.assertEqual(caught.exception.given, 0)
        self.assertIs(judge_block(self.lattice, 5, (), 0, helpers=[("pick", 2)]), True)
        self.assertIs(judge_block(self.lattice, 5, (0,), 0, helpers=[("pick", 2)]), False)

    def test_least_unhelped_group_on_the_way(self):
        for helpers, number in (([("pick", 2)], 4), ([("pick", 3)], 1), ([], 1)):
            with self.assertRaises(NoPlan) as caught:
                find_plan(self.lattice, 5, (0,), helpers=helpers)
            self.assertEqual(caught.exception.given, number)
        with self.assertRaises(NoPlan) as caught:
            find_plan(self.lattice, 2, (0,), helpers=self.three)
        self.assertEqual(caught.exception.given, 2)
        self.assertEqual(find_plan(self.lattice, 4, (0,), helpers=self.three), ((4, 4, 0, (0,)),))
        self.assertEqual(find_plan(self.lattice, 3, self.good, helpers=[]), ())

    def judged(self, plan, helpers=None, start=5):
        given = helpers or self.three
        found = judge_plan(self.lattice, start, self.good, plan, helpers=given)
        self.assertIs(judge_plan(self.lattice, start, self.good, list(plan), helpers=tuple(given)), found)
        return found

    def test_sound_plans_with_other_lots(self):
        # Nothing but the group, the base, the index and the lot of each row counts.
        self.assertTrue(self.judged(((4, 4, 0, (0,)), (5, 5, 0, (1,)))))
        six = [("pick", 6)]
        self.assertTrue(self.judged(((4, 4, 0, (0, 0)), (5, 5, 0, (1, 2))), six))
        self.assertTrue(self.judged(((4, 4, 0, (0, 0)), (5, 5, 0, (3, 1))), six))
        self.assertTrue(self.judged(((4, 4, 0, (0, 0)), (5, 5, 0, (4, 4, 4))), six))
        self.assertTrue(self.judged(((4, 4, 0, (0, 0)), (5, 3, 0, (0, 0, 0))), six))
        five = [("pick", 3), ("pick", 5)]
        self.assertTrue(self.judged(((4, 4, 0, (0,)), (5, 5, 1, (4, 2))), five))
        self.assertTrue(self.judged(((4, 4, 0, (0,)), (5, 5, 1, (2, 4))), five))

    def test_rows_twice_left_out_or_exchanged(self):
        first, second = (4, 4, 0, (0,)), (5, 4, 0, (0,))
        self.assertTrue(self.judged((first, second)))
        for plan in ((), (first,), (second,), (second, first), (first, first), (first, first, second),
                     (first, second, second), ((0, 4, 0, (0,)), first, second), (first, second, (6, 4, 0, (0,)))):
            self.assertFalse(self.judged(plan))
        self.assertTrue(judge_plan(self.lattice, 4, self.good, (first,), helpers=self.three))
        self.assertFalse(judge_plan(self.lattice, 4, self.good, (first, second), helpers=self.three))
        self.assertTrue(judge_plan(self.lattice, 1, self.good, (), helpers=self.three))
        self.assertFalse(judge_plan(self.lattice, 1, self.good, (first,), helpers=self.three))

    def test_rows_with_a_wrong_item(self):
        first = (4, 4, 0, (0,))
        for row in ((5, 4, 1, (0,)), (5, 4, -1, (0,)), (5, 4, 100, (0,)), (5, 6, 0, (0,)), (5, -1, 0, (0,)), (5, 99, 0, (0,)),
                    (5, 4, 0, (6,)), (5, 4, 0, (-6,)), (5, 4, 0, (-1,)), (5, 4, 0, (1,)), (5, 4, 0, (5,)), (5, 4, 0, ()),
                    (5, 4, 0, (0, 0)), (5, 4, 0, (4, 4, 4)), (5, 5, 0, (4, 5)), (5, 5, 0, (5, 5, 5)), (5, 1, 0, (0, 1)),
                    (-1, 4, 0, (0,)), (6, 4, 0, (0,)), (99, 4, 0, (0,)), (5, -2, 0, (0,))):
            self.assertFalse(self.judged((first, row)), row)
        # The group does not hold the base.
        for row in ((4, 5, 0, (1,)), (4, 1, 0, (0, 1)), (4, 1, 0, (0,))):
            self.assertFalse(self.judged((row, (5, 4, 0, (0,)))), row)
        self.assertFalse(judge_plan(self.lattice, 5, self.good, (first, (5, 4, 0, (0,))), helpers=[]))
        self.assertFalse(judge_plan(self.lattice, 5, self.good, (first, (5, 4, 0, (0,))), helpers=[("pick", 2)]))

    def test_rows_with_one_part_that_is_not_held(self):
        helpers = [("pick", 3), ("pick", 4), ("pick", 6)]
        first = (4, 4, 0, (0,))
        self.assertTrue(self.judged((first, (5, 4, 2, (0, 0))), helpers))
        for row in ((5, 4, 1, (0, 1)), (5, 4, 1, (1, 0)), (5, 4, 2, (0, -6)), (5, 4, 2, (0, 6))):
            self.assertFalse(self.judged((first, row), helpers), row)

    def test_helper_that_makes(self):
        helpers = [("make", 3, ("round", 0)), ("pick", 3)]
        good = (0, 4)
        plan = find_plan(self.lattice, 5, good, helpers=helpers)
        self.assertEqual(plan, ((1, 1, 0, (0, 1)), (2, 2, 0, (0, 2)), (3, 3, 0, (0, 3)), (5, 1, 0, (0, 1))))
        self.assertTrue(judge_plan(self.lattice, 5, good, plan, helpers=helpers))
        # Three things that are only turned leave each round alone.
        self.assertFalse(is_restless(self.lattice, 4, helpers[0], (0,)))
        for row in ((5, 4, 0, (0,)), (5, 1, 1, (0, 1)), (5, 1, 0, (1, 1, 1))):
            self.assertFalse(judge_plan(self.lattice, 5, good, plan[:3] + (row,), helpers=helpers))
        for row in ((5, 1, 0, (1, 0)), (5, 5, 0, (1,)), (5, 5, 0, (3,)), (5, 4, 1, (0,)), (5, 2, 0, (0, 2))):
            self.assertTrue(judge_plan(self.lattice, 5, good, plan[:3] + (row,), helpers=helpers))

    def test_nothing_is_modified(self):
        helpers = [("pick", 3)]
        plan = list(find_plan(self.lattice, 5, self.good, helpers=helpers))
        judge_plan(self.lattice, 5, self.good, plan, helpers=helpers)
        self.assertEqual((helpers, plan), ([("pick", 3)], [(4, 4, 0, (0,)), (5, 4, 0, (0,))]))


if __name__ == "__main__":
    unittest.main()
