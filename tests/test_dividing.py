"""Tests of nonames.dividing (points 136 to 142)."""

import unittest
from itertools import permutations, product
from nonames.counting import count_structures
from nonames.dividing import divide, division_plan, judge_division, polynomial_kind, polynomial_value
from nonames.errors import BadMap, NoDivision, NoPlan, NoRule, TooMany
from nonames.groups import all_groups
from nonames.kinds import check_kind
from nonames.lattices import Lattice
from nonames.making import make_from, own_group
from nonames.plans import find_plan, good_groups
from nonames.spaces import Space
from nonames.worlds import World
from slow import slow_list, slow_rename

DIVISION = ("pairing", ("one", 0), ("one", 1))
UNIT = ("named", 1)
HUGE = ("both", ("both", ("named", 9), ("named", 9)), ("named", 2))


def kinds_of(coefficients):
    return polynomial_kind(coefficients, 0), polynomial_kind(coefficients, 1)


def shuffled(items, number):
    """An order of the items that depends on a number."""
    items = list(items)
    found = []
    for many in range(len(items), 0, -1):
        found.append(items.pop(number % many))
        number = number // many
    return tuple(found)


class DividingTest(unittest.TestCase):
    @classmethod
    def setUpClass(cls):
        cls.worlds = {sizes: World(sizes) for sizes in ((0, 0), (1, 1), (2, 2), (3, 3), (1, 2), (2, 1), (2, 3), (4, 1), (0, 2))}

    def bad(self, error, given, function, *values, **more):
        with self.assertRaises(error) as caught:
            function(*values, **more)
        self.assertEqual(caught.exception.given, given)
        return caught.exception

    def test_polynomial_kind(self):
        self.assertEqual(polynomial_kind((1, 2, 3), 1), (
            "either", ("named", 1), ("either", ("both", ("named", 2), ("one", 1)),
                                     ("both", ("named", 3), ("both", ("one", 1), ("one", 1))))))
        self.assertEqual(polynomial_kind([0, 9, 0], 0), polynomial_kind((0, 9, 0), 0))
        for row in ((0, 0, 0), (9, 9, 9), (0, 9, 1)):
            for sort in (0, 1):
                check_kind(("pairing", polynomial_kind(row, sort), polynomial_kind(row, sort)), 2)

    def test_polynomial_value(self):
        self.assertEqual([polynomial_value((1, 2, 3), number) for number in range(4)], [1, 6, 17, 34])
        self.assertEqual(polynomial_value([9, 9, 9], 4), 189)
        for row in product((0, 1, 9), (0, 2), (0, 1, 3)):
            for sizes in ((0, 0), (2, 1), (1, 2), (2, 3)):
                for sort in (0, 1):
                    self.assertEqual(count_structures(World(sizes), polynomial_kind(row, sort)),
                                     polynomial_value(row, sizes[sort]))

    def is_left_alone(self, world, kind, other, f, answer):
        own = own_group(world, ("pairing", kind, other), f)
        return all(slow_rename(world.sizes, DIVISION, answer, world.renamings[number]) == answer for number in own)

    def maps(self, sizes, kind, other, most):
        """Some maps between two kinds, all of them if there are few."""
        sources, goals = slow_list(sizes, kind), slow_list(sizes, other)
        if len(sources) != len(goals):
            return []
        if len(goals) <= 4:
            return list(permutations(goals))
        return [shuffled(goals, 7919 * number * number + 31 * number) for number in range(most)]

    def test_polynomial_maps_have_divisions(self):
        for sizes in ((0, 0), (1, 1), (2, 2), (3, 3)):
            world = self.worlds[sizes]
            for row in ((0, 1, 0), (1, 1, 0), (2, 1, 0), (0, 0, 1), (0, 2, 0), (3, 0, 1), (9, 1, 0), (0, 9, 0), (1, 2, 1)):
                kind, other = kinds_of(row)
                for f in self.maps(sizes, kind, other, 10):
                    answer = divide(world, kind, other, f)
                    self.assertIn(answer, slow_list(sizes, DIVISION))
                    self.assertTrue(self.is_left_alone(world, kind, other, f, answer))
                    self.assertIs(judge_division(world, kind, other, f, answer), True)
                    self.assertEqual(answer, make_from(world, ("pairing", kind, other), f, Space(world, DIVISION)))

    def test_kinds_for_several_sorts(self):
        for kind, other in ((("row", 0), ("row", 1)), (("hand", 0), ("hand", 1)), (("both", ("one", 0), ("one", 1)),
                            ("both", ("one", 1), ("one", 0))), (("web", 1), ("web", 0)), (("round", 0), ("round", 1)),
                            (("one", 1), ("one", 0)), (UNIT, UNIT), (("named", 0), ("named", 0)), (("one", 0), ("one", 0)),
                            (("lots", ("one", 0), 2), ("lot", 1, 2))):
            for world in self.worlds.values():
                for f in self.maps(world.sizes, kind, other, 12):
                    self.divide_one(world, kind, other, f)

    def divide_one(self, world, kind, other, f):
        answers = [answer for answer in slow_list(world.sizes, DIVISION) if self.is_left_alone(world, kind, other, f, answer)]
        for answer in slow_list(world.sizes, DIVISION):
            self.assertIs(judge_division(world, kind, other, f, answer), answer in answers)
        own = own_group(world, ("pairing", kind, other), f)
        unlike = [group for group in all_groups(world) if set(group) <= set(own) and len(
            {sum(1 for x in world.things_of(sort) if all(world.renamings[g][x] == x for g in group)) for sort in (0, 1)}) == 2]
        if answers:
            self.assertEqual(unlike, [])
            self.assertIn(divide(world, kind, other, f), answers)
        else:
            error = self.bad(NoDivision, unlike[0], divide, world, kind, other, f)
            self.assertIsInstance(error.__cause__, NoRule)
            self.assertEqual(error.__cause__.given, own)

    def test_no_division(self):
        error = self.bad(NoDivision, (0, 1), divide, self.worlds[(2, 2)], UNIT, UNIT, (0,))
        self.assertIsInstance(error.__cause__, NoRule)
        self.assertEqual(error.__cause__.given, (0, 1, 2, 3))
        # Unlike numbers of things are seen from the group of renaming 0 alone.
        for sizes in ((1, 2), (2, 1), (2, 3), (0, 2)):
            error = self.bad(NoDivision, (0,), divide, self.worlds[sizes], UNIT, UNIT, (0,))
            self.assertEqual(error.__cause__.given, tuple(range(self.worlds[sizes].order)))
        self.assertEqual(divide(self.worlds[(0, 0)], UNIT, UNIT, (0,)), ())
        self.assertEqual(divide(self.worlds[(1, 1)], UNIT, UNIT, (0,)), (1,))

    def test_example(self):
        kind, other = kinds_of((1, 1, 0))
        f = ((1, (0, (0, 2))), (0, 0), (1, (0, (0, 3))))
        self.assertEqual(divide(self.worlds[(2, 2)], kind, other, f), (2, 3))

    def functions(self, world):
        lattice = Lattice(world)
        return [lambda kind, other, f: divide(world, kind, other, f),
                lambda kind, other, f: division_plan(lattice, kind, other, f, helpers=[("pick", 2)])]

    def test_too_many(self):
        world = self.worlds[(2, 2)]
        lattice = Lattice(world)
        deeper = ("either", ("both", HUGE, UNIT), HUGE)
        more = ("both", ("named", 9), ("both", ("named", 6), ("named", 2)))
        for kind, other, given in ((HUGE, more, HUGE), (more, HUGE, more), (UNIT, HUGE, HUGE), (HUGE, UNIT, HUGE),
                                   (UNIT, deeper, HUGE), (("lots", more, 0), UNIT, more)):
            for f in ((0,), 7, (), ((0, 1),)):
                self.bad(TooMany, given, divide, world, kind, other, f)
                self.bad(TooMany, given, judge_division, world, kind, other, f, (2, 3))
                self.bad(TooMany, given, division_plan, lattice, kind, other, f, helpers=[])
        # A hundred are not too many.
        hundred = ("both", ("either", ("named", 9), UNIT), ("either", ("named", 9), UNIT))
        f = tuple(slow_list((2, 2), hundred))
        self.bad(NoDivision, (0, 1), divide, world, hundred, hundred, f)

    def test_values_that_are_no_maps(self):
        world = self.worlds[(2, 2)]
        kind, other = kinds_of((1, 1, 0))
        good = ((1, (0, (0, 2))), (0, 0), (1, (0, (0, 3))))
        divide(world, kind, other, good)
        wrong = [(), 0, 5, good[:2], good + good[:1], good[:2] + good[:1], (good[0], good[1], (1, (0, (0, 1)))),
                 (good[0], (0, 1), good[2]), (good[0], 0, good[2]), (good[0], (), good[2]), (good,), good[0],
                 ((1, (0, (0, 0))), (0, 0), (1, (0, (0, 1))))]
        for f in wrong:
            for function in self.functions(world):
                self.bad(BadMap, f, function, kind, other, f)
            self.assertIs(judge_division(world, kind, other, f, (2, 3)), False)
        # Kinds with unlike numbers of structures have no maps.
        self.bad(BadMap, (2,), divide, self.worlds[(1, 2)], ("one", 0), ("one", 1), (2,))
        self.bad(BadMap, (), divide, self.worlds[(1, 2)], ("one", 0), ("one", 1), ())

    def test_judge_division_near_the_division(self):
        world = self.worlds[(3, 3)]
        kind, other = kinds_of((1, 1, 0))
        f = ((0, 0),) + tuple((1, (0, (0, thing))) for thing in (3, 4, 5))
        self.assertEqual(divide(world, kind, other, f), (3, 4, 5))
        self.assertIs(judge_division(world, kind, other, f, (3, 4, 5)), True)
        for answer in ((4, 3, 5), (3, 5, 4), (4, 5, 3), (3, 4), (), (3, 4, 5, 3), (3, 3, 3), (0, 1, 2), 3, ((3, 4, 5),),
                       (3, 4, 4), (3, 4, (5,)), (3, 4, 6), (3, 4, -1)):
            self.assertIs(judge_division(world, kind, other, f, answer), False)
        # A map that no renaming but 0 leaves alone is divided by every pairing.
        f = ((1, (0, (0, 2))), (0, 0), (1, (0, (0, 3))))
        for answer in ((2, 3), (3, 2)):
            self.assertIs(judge_division(self.worlds[(2, 2)], kind, other, f, answer), True)
        for sizes in ((1, 2), (2, 1)):
            for answer in ((), (1,), (2,), (1, 2), 0):
                self.assertIs(judge_division(self.worlds[sizes], UNIT, UNIT, (0,), answer), False)
        self.assertIs(judge_division(self.worlds[(0, 0)], UNIT, UNIT, (0,), ()), True)

    def test_division_plan(self):
        world = self.worlds[(2, 2)]
        lattice = Lattice(world)
        good = good_groups(lattice, Space(world, DIVISION))
        helpers = [("pick", 2)]
        plan = division_plan(lattice, UNIT, UNIT, (0,), helpers=helpers)
        self.assertEqual(plan, find_plan(lattice, 4, good, helpers=helpers))
        self.assertEqual([row[0] for row in plan], [1, 2, 4])
        kind, other = kinds_of((1, 1, 0))
        f = ((1, (0, (0, 2))), (0, 0), (1, (0, (0, 3))))
        for given in ([], (), helpers):
            self.assertEqual(division_plan(lattice, kind, other, f, helpers=given), ())
        self.bad(NoPlan, 1, division_plan, lattice, UNIT, UNIT, (0,), helpers=[])
        self.bad(NoPlan, 1, division_plan, lattice, UNIT, UNIT, (0,), helpers=[("pick", 3)])
        # Things that are too few for each other stay so, whatever is made.
        for sizes in ((1, 2), (2, 3)):
            other = Lattice(self.worlds[sizes])
            self.bad(NoPlan, 0, division_plan, other, UNIT, UNIT, (0,), helpers=[("pick", 2), ("pick", 3)])

    def test_division_plans_start_at_the_own_group(self):
        world = self.worlds[(3, 3)]
        lattice = Lattice(world)
        good = good_groups(lattice, Space(world, DIVISION))
        helpers = (("pick", 2), ("pick", 3))
        for f in permutations(slow_list((3, 3), ("hand", 1))):
            start = lattice.number(own_group(world, ("pairing", ("hand", 0), ("hand", 1)), f))
            self.assertEqual(division_plan(lattice, ("hand", 0), ("hand", 1), f, helpers=helpers),
                             find_plan(lattice, start, good, helpers=helpers))


if __name__ == "__main__":
    unittest.main()
