"""Tests of nonames.roads (points 143 to 146)."""

import unittest
from itertools import islice, permutations
from nonames.dividing import divide, judge_division, polynomial_kind
from nonames.errors import BadMap, TooMany
from nonames.making import own_group
from nonames.roads import halve, rings, road, subtract
from nonames.worlds import World
from slow import slow_list, slow_rename
from test_dividing import kinds_of, shuffled

ENDS = (("both", ("named", 2), ("one", 0)), ("both", ("named", 2), ("one", 1)))


def slow_road(sources, f, start):
    answers = [f[sources.index(start)]]
    while answers[-1][0] == 0:
        answers.append(f[sources.index(answers[-1])])
    return answers


def slow_walks(world, f):
    """For each walk its word and its things."""
    joined = dict(zip(slow_list(world.sizes, ENDS[0]), f))
    back = {goal: source for source, goal in joined.items()}
    found = []
    for first in world.things_of(0):
        for end in (0, 1):
            word, things, leaving = [], [], (end, first)
            while not things or leaving[1] != first:
                coming = joined[leaving]
                word += [leaving[0], coming[0]]
                things += [leaving[1], coming[1]]
                reached = back[(1 - coming[0], coming[1])]
                leaving = (1 - reached[0], reached[1])
            found.append((tuple(word), tuple(things)))
    return found


def slow_rings(world, f):
    walks = slow_walks(world, f)
    found = []
    for thing in world.things_of(0):
        own = [walk for walk in walks if thing in walk[1]]
        if min(min(things) for _, things in own) == thing:
            least = min(word for word, _ in own)
            ways = {things[things.index(thing):] + things[:things.index(thing)] for word, things in own if word == least}
            assert len(ways) == 1
            found += ways
    return found


class RoadTest(unittest.TestCase):
    @classmethod
    def setUpClass(cls):
        cls.worlds = {sizes: World(sizes) for sizes in ((0, 0), (1, 1), (2, 2), (3, 3), (1, 2), (2, 1))}

    def test_example(self):
        world = World((2, 2))
        f = ((1, (0, (0, 2))), (0, 0), (1, (0, (0, 3))))
        kinds = kinds_of((1, 1, 0))
        self.assertEqual([list(road(world, (1, 1, 0), f, (1, (0, (0, 0))))), subtract(world, (1, 1, 0), f),
                          divide(world, kinds[0], kinds[1], f)],
                         [[(0, 0), (1, (0, (0, 2)))], ((1, (0, (0, 2))), (1, (0, (0, 3)))), (2, 3)])
        f = ((0, 2), (1, 2), (0, 3), (1, 3))
        self.assertEqual([rings(World((2, 2)), f), halve(World([2, 2]), f)], [[(0, 2, 1, 3)], (2, 3)])

    def test_roads_from_every_structure_without_a_name(self):
        lengths = set()
        for sizes in ((1, 1), (2, 2), (3, 3)):
            world = self.worlds[sizes]
            for row in ((0, 1, 0), (1, 1, 0), (3, 1, 0), [9, 1, 1], (0, 2, 1), [5, 0, 1]):
                sources = slow_list(sizes, polynomial_kind(row, 0))
                goals = slow_list(sizes, polynomial_kind(row, 1))
                maps = list(permutations(goals))[::5] if len(goals) < 6 else [shuffled(goals, 977 ** k) for k in range(1, 8)]
                for f in maps:
                    lasts = []
                    for start in sources:
                        if start[0] == 1:
                            found = list(road(world, row, f, start))
                            self.assertEqual(found, slow_road(sources, f, start))
                            self.assertTrue(all(step[0] == 0 for step in found[:-1]) and found[-1][0] == 1)
                            lengths.add(len(found))
                            lasts.append(found[-1])
                    self.subtract_one(world, row, f, tuple(lasts))
        self.assertLessEqual({1, 2, 3, 4}, lengths)

    def subtract_one(self, world, row, f, lasts):
        answer = subtract(world, row, f)
        self.assertIsInstance(answer, tuple)
        self.assertEqual(answer, lasts)
        kind = ("pairing",) + kinds_of((0, row[1], row[2]))
        self.assertEqual(sorted(answer), slow_list(world.sizes, kind[2]))
        for number in own_group(world, ("pairing",) + kinds_of(row), f):
            self.assertEqual(slow_rename(world.sizes, kind, answer, world.renamings[number]), answer)

    def test_roads_through_all_named_structures(self):
        world = self.worlds[(1, 1)]
        sources, goals = slow_list((1, 1), polynomial_kind((3, 1, 0), 0)), slow_list((1, 1), polynomial_kind((3, 1, 0), 1))
        start, end = sources[3], goals[3]
        f = (end, (0, 0), (0, 1), (0, 2))
        self.assertEqual(list(road(world, [3, 1, 0], f, start)), [(0, 2), (0, 1), (0, 0), end])
        self.assertEqual(next(iter(road(world, (3, 1, 0), f, start))), (0, 2))
        self.assertEqual(list(islice(road(world, (3, 1, 0), ((0, 1), (0, 0), (0, 2), end), start), 5)), [end])

    def test_road_where_there_are_too_many_to_subtract(self):
        world = self.worlds[(3, 3)]
        row = (9, 9, 9)
        sources, goals = slow_list((3, 3), polynomial_kind(row, 0)), slow_list((3, 3), polynomial_kind(row, 1))
        self.assertEqual(len(goals), 117)
        f = shuffled(goals, 12345678901234567 ** 9)
        for start in sources[9:]:
            self.assertEqual(list(road(world, row, f, start)), slow_road(sources, f, start))
        with self.assertRaises(TooMany) as caught:
            subtract(world, row, f)
        self.assertEqual(caught.exception.given, polynomial_kind(row, 0)[2])

    def test_subtract_as_lists_and_without_named_ones(self):
        world = self.worlds[(2, 2)]
        for row in ((0, 1, 0), (0, 0, 1), (0, 1, 1)):
            goals = slow_list((2, 2), polynomial_kind(row, 1))
            f = tuple(goals[::-1])
            self.assertEqual(subtract(world, list(row), f), f)
            self.assertEqual(subtract(world, row, f), f)
        self.assertEqual((subtract(world, (2, 0, 0), ((0, 1), (0, 0))), subtract(world, (0, 0, 0), ())), ((), ()))
        row = [1, 1, 0]
        subtract(world, row, ((0, 0), (1, (0, (0, 2))), (1, (0, (0, 3)))))
        self.assertEqual(row, [1, 1, 0])

    def test_subtract_of_what_is_no_map(self):
        world = self.worlds[(2, 2)]
        good = ((1, (0, (0, 2))), (0, 0), (1, (0, (0, 3))))
        for f in ((), 4, good[:2], good + good[:1], good[:2] + good[:1], good[:2] + ((1, (0, (0, 1))),), good[:2] + (0,),
                  good[:2] + ((0, 1),)):
            with self.assertRaises(BadMap) as caught:
                subtract(world, (1, 1, 0), f)
            self.assertEqual(caught.exception.given, f)
        with self.assertRaises(BadMap):
            subtract(self.worlds[(1, 2)], (1, 1, 0), good)
        # The kind of sort 0 comes first.
        with self.assertRaises(TooMany) as caught:
            subtract(World((4, 1)), (0, 9, 9), 3)
        self.assertEqual(caught.exception.given, ("both", ("named", 9), ("both", ("one", 0), ("one", 0))))
        with self.assertRaises(TooMany) as caught:
            subtract(World((1, 4)), (0, 9, 9), 3)
        self.assertEqual(caught.exception.given, ("both", ("named", 9), ("both", ("one", 1), ("one", 1))))

    def test_rings_of_every_map(self):
        sizes_seen = set()
        for sizes in ((0, 0), (1, 1), (2, 2), (3, 3)):
            world = self.worlds[sizes]
            for f in permutations(slow_list(sizes, ENDS[1])):
                found = rings(world, f)
                self.assertIsInstance(found, list)
                self.assertEqual(found, slow_rings(world, f))
                self.assertEqual(sorted(thing for ring in found for thing in ring), list(range(world.things)))
                sizes_seen |= {len(ring) for ring in found}
                answer = halve(world, f)
                follow = {ring[at]: ring[at + 1] for ring in found for at in range(0, len(ring), 2)}
                self.assertEqual(answer, tuple(follow[thing] for thing in world.things_of(0)))
        self.assertEqual(sizes_seen, {2, 4, 6})

    def test_halves_are_divisions(self):
        for sizes, step in (((1, 1), 1), ((2, 2), 1), ((3, 3), 17)):
            world = self.worlds[sizes]
            for f in list(permutations(slow_list(sizes, ENDS[1])))[::step]:
                self.assertIs(judge_division(world, ENDS[0], ENDS[1], f, halve(world, f)), True)

    def test_small_rings(self):
        world = self.worlds[(1, 1)]
        for f in (((0, 1), (1, 1)), ((1, 1), (0, 1))):
            self.assertEqual((rings(world, f), halve(world, f)), ([(0, 1)], (1,)))
        self.assertEqual((rings(self.worlds[(0, 0)], ()), halve(self.worlds[(0, 0)], ())), ([], ()))

    def test_direction_of_the_least_word(self):
        world = self.worlds[(2, 2)]
        # The words of the walks are 0010 and 1101 from thing 0, 0111 and 1000 from thing 1, by end 0 and by end 1.
        f = ((0, 2), (1, 2), (1, 3), (0, 3))
        self.assertEqual([word for word, _ in slow_walks(world, f)],
                         [(0, 0, 1, 0), (1, 1, 0, 1), (0, 1, 1, 1), (1, 0, 0, 0)])
        self.assertEqual((rings(world, f), halve(world, f)), ([(0, 2, 1, 3)], (2, 3)))
        # The same ring with the names of 0 and 1 exchanged goes the other way around, seen from thing 0.
        f = ((1, 2), (0, 2), (0, 3), (1, 3))
        self.assertEqual((rings(world, f), halve(world, f)), ([(0, 3, 1, 2)], (3, 2)))

    def test_no_maps_between_ends(self):
        good = ((0, 2), (1, 2), (0, 3), (1, 3))
        for f in ((), 9, good[:3], good + good[:1], good[:3] + good[:1], good[:3] + ((1, 1),), good[:3] + ((2, 3),), good[:3] + (3,)):
            for function in (rings, halve):
                with self.assertRaises(BadMap) as caught:
                    function(self.worlds[(2, 2)], f)
                self.assertEqual(caught.exception.given, f)
        for sizes in ((1, 2), (2, 1)):
            # Neither a map for another world nor the ends of one sort, in order, are a map.
            for f in (good, tuple(slow_list(sizes, ENDS[0])), tuple(slow_list(sizes, ENDS[1])), ()):
                for function in (rings, halve):
                    with self.assertRaises(BadMap) as caught:
                        function(self.worlds[sizes], f)
                    self.assertEqual(caught.exception.given, f)


if __name__ == "__main__":
    unittest.main()
