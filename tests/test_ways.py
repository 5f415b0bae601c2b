"""Tests of nonames.ways (points 57 to 59)."""

import unittest
from nonames.errors import NoRule, NoWay
from nonames.lattices import Lattice
from nonames.rulecounts import allowed_answers, refusal
from nonames.rules import Rule
from nonames.spaces import Space
from nonames.ways import find_both_ways, find_into, find_onto, orbit_counts
from nonames.worlds import World
from slow_rules import orbits_in, rests_of, slow_fitting, slow_moves, slow_tables
from test_rulecounts import REFUSED
from test_rules import PAIRS, spaces

ONE, TWO, ROW, WEB, HAND = ("one", 0), ("lot", 0, 2), ("row", 0), ("web", 0), ("hand", 0)
MORE = [((3,), ("either", ONE, TWO), ("either", TWO, ONE)), ((3,), ("either", ("named", 2), ONE), ("either", ("either", ONE, ONE), ("named", 2))),
        ((3,), ("named", 3), ("named", 3)), ((3,), ("named", 2), ("named", 3)), ((3,), ("named", 3), ("named", 2)),
        ((3,), ("either", ROW, ("named", 1)), ("either", ONE, ("named", 1))), ((3,), ROW, ("either", ONE, ("named", 1))),
        ((2,), ("both", ONE, ONE), ("maps", ONE, ONE)), ((2,), ("either", ONE, ("named", 2)), ("web", 0)),
        ((2,), ("either", ONE, ("either", ONE, ("named", 1))), ("either", ONE, ("named", 2))),
        ((2,), ("either", ("named", 2), ONE), ("either", ONE, ("named", 1))), ((0,), ("named", 2), ("row", 0)),
        ((3,), ("named", 0), ("named", 0)), ((3,), ("named", 0), ONE), ((3,), ("round", 0), HAND), ((3,), ONE, ("tree", 0))]


class WaysTest(unittest.TestCase):
    def each(self):
        for sizes, kind, other in PAIRS + REFUSED + MORE:
            moves, goals = slow_moves(sizes, kind), slow_moves(sizes, other)
            source, goal = spaces(sizes, kind, other)
            yield Lattice(World(sizes)), source, goal, moves, goals

    def no_way(self, given, function, lattice, source, goal):
        with self.assertRaises(NoWay) as caught:
            function(lattice, source, goal)
        self.assertEqual(caught.exception.given, given)

    def test_example(self):
        world = World((3,))
        rule = find_into(Lattice(world), Space(world, ("one", 0)), Space(world, ("lot", 0, 2)))
        self.assertEqual([rule.table, orbit_counts(Lattice(world), Space(world, ("web", 0)))], [(2, 1, 0), (0, 2, 0, 2)])

    def test_orbit_counts(self):
        for lattice, source, _, moves, _ in self.each():
            counts = [0] * len(lattice.classes)
            for orbit in orbits_in(moves):
                counts[lattice.class_of(lattice.number(rests_of(moves, orbit[-1])))] += 1
            self.assertEqual(orbit_counts(lattice, source), tuple(counts))

    def test_find_into(self):
        found, refused = 0, 0
        for lattice, source, goal, moves, goals in self.each():
            tables = [table for table in slow_tables(moves, goals) if len(set(table)) == len(table)]
            if tables:
                rule = find_into(lattice, source, goal)
                self.assertIsInstance(rule, Rule)
                self.assertIn(rule.table, tables)
                self.assertEqual(list(rule.choices), slow_fitting(moves, goals))
                found += 1
            else:
                counts = list(zip(orbit_counts(lattice, source), orbit_counts(lattice, goal)))
                first = [place for place, (many, most) in enumerate(counts) if many > most][0]
                self.no_way(("crowded", first) + counts[first], find_into, lattice, source, goal)
                refused += 1
        self.assertGreater(min(found, refused), 8)

    def test_crowded(self):
        world = World((3,))
        lattice = Lattice(world)
        one, two, row, named, web = [Space(world, kind) for kind in (ONE, TWO, ROW, ("named", 2), WEB)]
        self.no_way(("crowded", 0, 1, 0), find_into, lattice, row, one)
        self.no_way(("crowded", 1, 2, 1), find_into, lattice, web, two)
        self.no_way(("crowded", 3, 2, 0), find_into, lattice, named, one)
        self.no_way(("crowded", 1, 1, 0), find_into, lattice, one, Space(world, ("named", 0)))

    def test_into_in_another_order(self):
        world = World((3,))
        lattice = Lattice(world)
        source, goal = Space(world, ("either", ONE, ("either", ONE, TWO))), Space(world, ("either", TWO, ("either", ONE, ONE)))
        rule = find_into(lattice, source, goal)
        # The least thing of the goal counts, not the one that looks alike.
        self.assertEqual(rule.choices, (2, 3, 8))

    def check_few(self, given, source, goal):
        word, goals, sources = given
        self.assertEqual(word, "few")
        orbits, allowed = goal.orbits(), allowed_answers(source, goal)
        self.assertEqual(goals, tuple(sorted(set(goals))))
        self.assertLessEqual(set(goals), set(range(len(orbits))))
        self.assertEqual(sources, tuple(place for place, answers in enumerate(allowed)
                                        if any(answer in orbits[at] for at in goals for answer in answers)))
        self.assertLess(len(sources), len(goals))

    def test_find_onto(self):
        found, few, none = 0, 0, 0
        for lattice, source, goal, moves, goals in self.each():
            tables = slow_tables(moves, goals)
            if any(len(set(table)) == goal.size for table in tables):
                rule = find_onto(lattice, source, goal)
                self.assertIn(rule.table, tables)
                self.assertEqual(set(rule.table), set(range(goal.size)))
                found += 1
            elif tables:
                with self.assertRaises(NoWay) as caught:
                    find_onto(lattice, source, goal)
                self.check_few(caught.exception.given, source, goal)
                few += 1
            else:
                with self.assertRaises(NoRule) as caught:
                    find_onto(lattice, source, goal)
                self.assertEqual(caught.exception.given, refusal(source, goal))
                none += 1
        self.assertGreater(min(found, few, none), 5)

    def test_onto_where_others_must_make_room(self):
        world = World((3,))
        lattice = Lattice(world)
        # Rows can make all, things only things and names: the rows must be handed on to the goal's rows.
        source = Space(world, ("either", ROW, ("either", ONE, ("either", ROW, ("named", 1)))))
        goal = Space(world, ("either", ("named", 1), ("either", ONE, ("either", ROW, ROW))))
        rule = find_onto(lattice, source, goal)
        self.assertEqual(set(rule.table), set(range(goal.size)))
        for kinds in ((ROW, ONE, ("named", 2)), (ROW, ROW, ONE), (ROW, ONE, ("round", 0), ("named", 1))):
            for order in range(len(kinds)):
                turned = kinds[order:] + kinds[:order]
                held = []
                for row in (kinds, turned):
                    kind = row[0]
                    for part in row[1:]:
                        kind = ("either", kind, part)
                    held.append(Space(world, kind))
                for first, second in ((held[0], held[1]), (held[1], held[0])):
                    self.assertEqual(set(find_onto(lattice, first, second).table), set(range(second.size)))

    def test_onto_where_rules_are_few_and_many(self):
        world = World((3,))
        lattice = Lattice(world)
        many = Space(world, ("both", ROW, ("named", 9)))
        goal = Space(world, ("both", WEB, ("named", 2)))
        self.assertEqual(set(find_onto(lattice, many, goal).table), set(range(16)))
        self.assertEqual(set(find_onto(lattice, goal, goal).table), set(range(16)))
        with self.assertRaises(NoWay) as caught:
            find_onto(lattice, many, Space(world, ("both", ROW, ("both", HAND, ("named", 6)))))
        self.check_few(caught.exception.given, many, Space(world, ("both", ROW, ("both", HAND, ("named", 6)))))
        with self.assertRaises(NoWay) as caught:
            find_onto(lattice, Space(world, ("named", 5)), Space(world, ("either", ("named", 2), ONE)))
        self.assertEqual(caught.exception.given, ("few", (2,), ()))

    def test_few_with_several_orbits(self):
        world = World((2, 2))
        source = Space(world, ("either", ("one", 0), ("one", 1)))
        goal = Space(world, ("either", ("one", 0), ("either", ("named", 1), ("one", 1))))
        self.no_way(("few", (0, 1, 2), (0, 1)), find_onto, Lattice(world), source, goal)
        source = Space(world, ("either", ("either", ("row", 0), ("one", 1)), ("one", 0)))
        goal = Space(world, ("either", ("either", ("one", 0), ("one", 1)), ("either", ("one", 1), ("row", 0))))
        with self.assertRaises(NoWay) as caught:
            find_onto(Lattice(world), source, goal)
        self.check_few(caught.exception.given, source, goal)

    def test_onto_without_structures(self):
        world = World((3,))
        lattice = Lattice(world)
        empty, one = Space(world, ("named", 0)), Space(world, ONE)
        self.assertEqual(find_onto(lattice, empty, empty).table, ())
        self.assertEqual(find_into(lattice, empty, one).table, ())
        with self.assertRaises(NoWay) as caught:
            find_onto(lattice, empty, one)
        self.assertEqual(caught.exception.given, ("few", (0,), ()))
        with self.assertRaises(NoRule) as caught:
            find_onto(lattice, one, empty)
        self.assertEqual(caught.exception.given, (0, ()))
        self.no_way(("parted", 0, 0, 3), find_both_ways, lattice, empty, one)
        self.assertEqual([rule.table for rule in find_both_ways(lattice, empty, empty)], [(), ()])

    def test_find_both_ways(self):
        found, parted = 0, 0
        for lattice, source, goal, moves, goals in self.each():
            tables = [table for table in slow_tables(moves, goals) if sorted(table) == list(range(goal.size))]
            rests = [[sum(1 for x in range(len(rows[0])) if all(rows[member][x] == x for member in group))
                      for group in lattice.groups] for rows in (moves, goals)]
            apart = [number for number, (many, others) in enumerate(zip(*rests)) if many != others]
            self.assertEqual(not apart, bool(tables))
            if apart:
                given = ("parted", apart[0], rests[0][apart[0]], rests[1][apart[0]])
                self.no_way(given, find_both_ways, lattice, source, goal)
                parted += 1
            else:
                pair = find_both_ways(lattice, source, goal)
                self.assertIsInstance(pair, tuple)
                there, back = pair
                self.assertIn(there.table, tables)
                self.assertEqual(list(there.choices), slow_fitting(moves, goals))
                self.assertEqual((back.source.kind, back.goal.kind), (goal.kind, source.kind))
                self.assertTrue(there >> back == Rule.identity(source))
                self.assertTrue(back >> there == Rule.identity(goal))
                found += 1
        self.assertGreater(min(found, parted), 5)

    def test_parted(self):
        world = World((3,))
        lattice = Lattice(world)
        self.no_way(("parted", 1, 1, 3), find_both_ways, lattice, Space(world, ONE), Space(world, ("named", 3)))
        self.no_way(("parted", 0, 6, 3), find_both_ways, lattice, Space(world, ROW), Space(world, ONE))
        self.no_way(("parted", 1, 0, 2), find_both_ways, lattice, Space(world, HAND), Space(world, ("named", 2)))
        first, second = Space(world, ONE), Space(world, ("either", HAND, ("named", 1)))
        self.no_way(("parted", 4, 0, 3), find_both_ways, lattice, first, second)
        self.no_way(("parted", 4, 3, 0), find_both_ways, lattice, second, first)


if __name__ == "__main__":
    unittest.main()
