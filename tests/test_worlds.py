"""Tests of nonames.worlds (points 2 and 4 to 6)."""

import unittest
from itertools import permutations
from nonames.errors import BadRenaming, BadWorld
from nonames.worlds import World

ALL_SIZES = [(size,) for size in range(5)] + [
    (first, second) for first in range(5) for second in range(5)
    if (first, second) not in ((4, 2), (4, 3), (4, 4), (2, 4), (3, 4))]


def slow_renamings(sizes):
    """All renamings, found by looking at every order of all things."""
    sorts = [sort for sort, size in enumerate(sizes) for _ in range(size)]
    return tuple(row for row in permutations(range(len(sorts)))
                 if all(sorts[thing] == sorts[row[thing]] for thing in range(len(sorts))))


class WorldTest(unittest.TestCase):
    def bad(self, sizes, given):
        with self.assertRaises(BadWorld) as caught:
            World(sizes)
        self.assertEqual(caught.exception.given, given)
        self.assertIsInstance(caught.exception.given, tuple)

    def test_example(self):
        world = World((2, 1))
        self.assertEqual([world.things, world.order, world.renamings, world.steps()],
                         [3, 2, ((0, 1, 2), (1, 0, 2)), [1]])
        world = World([3])
        self.assertEqual([world.then(1, 2), world.then(2, 1), world.inverse(3)], [3, 4, 4])

    def test_class_values(self):
        self.assertEqual((World.LARGEST, World.MOST), (4, 36))

    def test_sizes_as_tuple_and_list(self):
        self.assertEqual(World((2, 3)).sizes, (2, 3))
        self.assertEqual(World([2, 3]).sizes, (2, 3))
        self.assertIsInstance(World([3]).sizes, tuple)

    def test_list_changed_afterwards(self):
        sizes = [2, 1]
        world = World(sizes)
        sizes.append(4)
        sizes[0] = 0
        self.assertEqual((world.sizes, world.things, world.things_of(0)), ((2, 1), 3, (0, 1)))

    def test_no_sizes(self):
        self.bad((), ())
        self.bad([], ())

    def test_three_sizes(self):
        self.bad((1, 1, 1), (1, 1, 1))
        self.bad([0, 0, 0], (0, 0, 0))

    def test_size_below_zero(self):
        self.bad((-1,), (-1,))
        self.bad([2, -1], (2, -1))

    def test_size_above_four(self):
        self.bad((5,), (5,))
        self.bad([0, 5], (0, 5))
        self.bad((5, 0), (5, 0))

    def test_too_many_renamings(self):
        self.bad((4, 2), (4, 2))
        self.bad([2, 4], (2, 4))
        self.bad((3, 4), (3, 4))
        self.bad((4, 4), (4, 4))

    def test_greatest_worlds(self):
        self.assertEqual(World((3, 3)).order, 36)
        self.assertEqual(World((4, 1)).order, 24)
        self.assertEqual(World((4, 0)).order, 24)
        self.assertEqual(World((1, 4)).order, 24)

    def test_sorts_without_things(self):
        world = World((0,))
        self.assertEqual((world.things, world.order, world.renamings, world.steps()), (0, 1, ((),), []))
        self.assertEqual(world.things_of(0), ())
        world = World((0, 2))
        self.assertEqual((world.things, world.order, world.renamings), (2, 2, ((0, 1), (1, 0))))
        self.assertEqual((world.things_of(0), world.things_of(1), world.sort_of(0)), ((), (0, 1), 1))
        self.assertEqual(world.steps(), [1])
        world = World((2, 0))
        self.assertEqual((world.things_of(0), world.things_of(1)), ((0, 1), ()))
        self.assertEqual(World((0, 0)).renamings, ((),))

    def test_things_and_sorts(self):
        world = World((2, 3))
        self.assertEqual((world.things_of(0), world.things_of(1)), ((0, 1), (2, 3, 4)))
        self.assertEqual([world.sort_of(thing) for thing in range(5)], [0, 0, 1, 1, 1])

    def test_renamings_in_ascending_order(self):
        for sizes in ALL_SIZES:
            world = World(sizes)
            self.assertEqual(world.renamings, slow_renamings(sizes), sizes)
            self.assertEqual(world.order, len(world.renamings))
            self.assertEqual(world.things, sum(sizes))
            self.assertEqual(world.renamings[0], tuple(range(sum(sizes))))
            self.assertEqual(list(world.renamings), sorted(world.renamings))

    def test_number(self):
        for sizes in ((3,), (2, 2), (0,), (0, 3)):
            world = World(sizes)
            for number, row in enumerate(world.renamings):
                self.assertEqual(world.number(row), number)
                self.assertEqual(world.number(list(row)), number)

    def test_bad_renamings(self):
        world = World((2, 1))
        for row in ((), (0, 1), (0, 1, 2, 3), (0, 0, 2), (0, 2, 1), (2, 1, 0), (0, 1, 3), (-1, 0, 2), (1, 2, 0)):
            for given in (row, list(row)):
                with self.assertRaises(BadRenaming) as caught:
                    world.number(given)
                self.assertEqual(caught.exception.given, row)
                self.assertIsInstance(caught.exception.given, tuple)

    def test_then(self):
        for sizes in ((3,), (2, 2), (3, 2), (4,), (3, 3)):
            world = World(sizes)
            for first, left in enumerate(world.renamings):
                for second, right in enumerate(world.renamings):
                    both = tuple(right[left[thing]] for thing in range(world.things))
                    self.assertEqual(world.renamings[world.then(first, second)], both)

    def test_inverse(self):
        for sizes in ((0,), (1,), (3,), (2, 3), (4,)):
            world = World(sizes)
            for number in range(world.order):
                self.assertEqual(world.then(number, world.inverse(number)), 0)
                self.assertEqual(world.then(world.inverse(number), number), 0)

    def test_steps(self):
        self.assertEqual([World((4,)).renamings[step] for step in World((4,)).steps()],
                         [(1, 0, 2, 3), (0, 2, 1, 3), (0, 1, 3, 2)])
        self.assertEqual([World((2, 3)).renamings[step] for step in World((2, 3)).steps()],
                         [(1, 0, 2, 3, 4), (0, 1, 3, 2, 4), (0, 1, 2, 4, 3)])
        self.assertEqual(World((1, 1)).steps(), [])
        self.assertEqual(World((1,)).steps(), [])

    def test_returned_list_changed_by_the_caller(self):
        world = World((3,))
        steps = world.steps()
        steps.append(99)
        steps[0] = 5
        self.assertEqual(world.steps(), [2, 1])

    def test_argument_is_not_modified(self):
        sizes = [3, 1]
        row = [1, 0, 2, 3]
        World(sizes).number(row)
        self.assertEqual((sizes, row), ([3, 1], [1, 0, 2, 3]))


if __name__ == "__main__":
    unittest.main()
