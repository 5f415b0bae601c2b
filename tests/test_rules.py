"""Tests of nonames.rules (points 51 to 54)."""

import unittest
from itertools import product
from nonames.errors import BadRule, BadStructure
from nonames.rules import Rule
from nonames.spaces import Space
from nonames.worlds import World
from slow import slow_rename
from slow_rules import orbits_in, slow_moves, slow_tables

# Pairs of kinds with few enough maps to try them all, and the sizes of worlds for them.
PAIRS = [
    ((3,), ("one", 0), ("one", 0)), ((3,), ("one", 0), ("lot", 0, 2)), ((3,), ("hand", 0), ("round", 0)),
    ((3,), ("row", 0), ("hand", 0)), ((3,), ("hand", 0), ("row", 0)), ((3,), ("named", 2), ("one", 0)),
    ((3,), ("one", 0), ("named", 3)), ((3,), ("web", 0), ("hand", 0)), ((3,), ("tree", 0), ("web", 0)),
    ((3,), ("round", 0), ("web", 0)), ((3,), ("either", ("one", 0), ("named", 1)), ("either", ("named", 2), ("one", 0))),
    ((2,), ("web", 0), ("both", ("one", 0), ("one", 0))), ((2,), ("maps", ("one", 0), ("one", 0)), ("one", 0)),
    ((2,), ("row", 0), ("maps", ("one", 0), ("one", 0))), ((2, 1), ("either", ("one", 0), ("one", 1)), ("either", ("one", 1), ("row", 0))),
    ((2, 2), ("one", 0), ("both", ("hand", 0), ("one", 1))), ((2, 2), ("both", ("hand", 0), ("hand", 1)), ("one", 1)),
    ((2, 2), ("pairing", ("one", 0), ("one", 1)), ("hand", 0)), ((0,), ("one", 0), ("named", 2)), ((0,), ("one", 0), ("one", 0)),
    ((1,), ("named", 3), ("either", ("one", 0), ("hand", 0))), ((3,), ("named", 0), ("row", 0)), ((3,), ("named", 1), ("named", 0)),
    ((4,), ("parts", 0, (2, 2)), ("parts", 0, (2, 2))), ((4,), ("hand", 0), ("either", ("hand", 0), ("parts", 0, (2, 2)))),
]


def spaces(sizes, source, goal):
    return Space(World(sizes), source), Space(World(sizes), goal)


class RulesTest(unittest.TestCase):
    def bad(self, given, make):
        with self.assertRaises(BadRule) as caught:
            make()
        self.assertEqual(caught.exception.given, given)
        self.assertIsInstance(caught.exception.given, tuple)

    def test_all_rules_of_many_pairs(self):
        for sizes, kind, other in PAIRS:
            source, goal = spaces(sizes, kind, other)
            moves = slow_moves(sizes, kind)
            firsts = [orbit[0] for orbit in orbits_in(moves)]
            tables = slow_tables(moves, slow_moves(sizes, other))
            good = {tuple(table[first] for first in firsts): table for table in tables}
            self.assertEqual(len(good), len(tables))
            for choices in product(range(-1, goal.size + 1), repeat=len(firsts)):
                if choices in good:
                    rule = Rule(source, goal, list(choices))
                    self.assertEqual((rule.choices, rule.table), (choices, good[choices]))
                    self.assertIs(rule.source, source)
                    self.assertIs(rule.goal, goal)
                else:
                    self.bad(choices, lambda: Rule(source, goal, list(choices)))

    def test_number_of_choices(self):
        source, goal = spaces((3,), ("web", 0), ("web", 0))
        rule = Rule(source, goal, (0, 1, 2, 3))
        self.assertEqual(rule.choices, (0, 1, 2, 3))
        for choices in ((), (0,), (0, 1, 2), (0, 1, 2, 3, 3), (0, 1, 2, 3, 0, 0)):
            self.bad(choices, lambda: Rule(source, goal, choices))
            self.bad(choices, lambda: Rule(source, goal, list(choices)))
        empty = Space(World((3,)), ("named", 0))
        self.assertEqual(Rule(empty, goal, []).table, ())
        self.bad((0,), lambda: Rule(empty, goal, [0]))

    def test_choices_that_are_no_allowed_answers(self):
        source, goal = spaces((3,), ("one", 0), ("one", 0))
        self.assertEqual(Rule(source, goal, [0]).table, (0, 1, 2))
        for choice in (1, 2, 3, -1, -3, 10 ** 20):
            self.bad((choice,), lambda: Rule(source, goal, [choice]))

    def test_worlds_of_other_sizes(self):
        for sizes, other in (((3,), (2,)), ((2,), (2, 0)), ((2, 1), (1, 2)), ((0,), (0, 0)), ((3,), (3, 1))):
            source, goal = Space(World(sizes), ("named", 1)), Space(World(other), ("named", 1))
            self.bad((0,), lambda: Rule(source, goal, [0]))
            self.bad((0,), lambda: Rule.from_table(source, goal, [0]))
        self.assertEqual(Rule(Space(World((2, 1)), ("named", 1)), Space(World([2, 1]), ("named", 2)), [1]).table, (1,))

    def test_lists_changed_afterwards(self):
        source, goal = spaces((3,), ("one", 0), ("one", 0))
        choices = [0]
        rule = Rule(source, goal, choices)
        choices[0] = 5
        self.assertEqual((rule.choices, rule.table), ((0,), (0, 1, 2)))
        table = [0, 1, 2]
        rule = Rule.from_table(source, goal, table)
        table.reverse()
        self.assertEqual(rule.table, (0, 1, 2))

    def test_answers(self):
        source, goal = spaces((3,), ("one", 0), ("lot", 0, 2))
        rule = Rule(source, goal, [2])
        self.assertEqual([rule(thing) for thing in range(3)], [(1, 2), (0, 2), (0, 1)])
        source, goal = spaces((3,), ("row", 0), ("web", 0))
        rule = Rule(source, goal, [1])
        for row in source:
            for renaming in World((3,)).renamings:
                self.assertEqual(rule(slow_rename((3,), ("row", 0), row, renaming)),
                                 slow_rename((3,), ("web", 0), rule(row), renaming))

    def test_no_structures(self):
        source, goal = spaces((3,), ("row", 0), ("web", 0))
        rule = Rule(source, goal, [1])
        for value in (0, 7, (), (0, 1), (0, 1, 1), ((0, 1, 2),), -1):
            with self.assertRaises(BadStructure) as caught:
                rule(value)
            self.assertEqual(caught.exception.given, value)

    def test_one_rule_after_another(self):
        world = World((3,))
        one, two, web = [Space(world, kind) for kind in (("one", 0), ("lot", 0, 2), ("web", 0))]
        first, second = Rule(one, two, [2]), Rule(two, web, [1])
        third = first >> second
        self.assertIsInstance(third, Rule)
        self.assertEqual((third.source, third.goal), (one, web))
        self.assertEqual([third(thing) for thing in one], [second(first(thing)) for thing in one])
        # Spaces that are made anew are alike.
        again = Rule(Space(World([3]), ("lot", 0, 2)), Space(World([3]), ("web", 0)), [1])
        self.assertTrue(first >> again == third)

    def test_all_rules_after_all_others(self):
        sizes = (2,)
        kinds = [("one", 0), ("web", 0), ("maps", ("one", 0), ("one", 0)), ("named", 2), ("either", ("one", 0), ("named", 1))]
        rows = {kind: slow_moves(sizes, kind) for kind in kinds}
        held = {kind: Space(World(sizes), kind) for kind in kinds}
        for start, middle, end in product(kinds, repeat=3):
            for table in slow_tables(rows[start], rows[middle])[:5]:
                for other in slow_tables(rows[middle], rows[end])[:5]:
                    first = Rule.from_table(held[start], held[middle], table)
                    second = Rule.from_table(held[middle], held[end], other)
                    self.assertEqual((first >> second).table, tuple(other[answer] for answer in table))

    def test_rules_that_do_not_follow_one_another(self):
        world = World((3,))
        one, two = Space(world, ("one", 0)), Space(world, ("lot", 0, 2))
        first = Rule(one, two, [2])
        self.bad((0,), lambda: first >> Rule(one, one, [0]))
        other = Space(World((3, 1)), ("lot", 0, 2))
        self.bad((0,), lambda: first >> Rule.identity(other))
        self.bad((0, 1, 2, 3), lambda: first >> Rule.identity(Space(world, ("web", 0))))
        # As many structures and the same moves do not make the kinds equal.
        alike = Space(world, ("lots", ("one", 0), 2))
        self.assertEqual(alike.structures, two.structures)
        self.bad((0,), lambda: first >> Rule.identity(alike))
        empty = Space(World((2,)), ("named", 0))
        self.bad((), lambda: Rule(Space(World((3,)), ("named", 0)), Space(World((3,)), ("named", 0)), ()) >> Rule.identity(empty))

    def test_equal(self):
        source, goal = spaces((3,), ("web", 0), ("web", 0))
        rule = Rule(source, goal, (0, 1, 2, 3))
        self.assertTrue(rule == Rule(Space(World([3]), ("web", 0)), goal, [0, 1, 2, 3]))
        self.assertFalse(rule == Rule(source, goal, (3, 1, 2, 3)))
        self.assertTrue(rule != Rule(source, goal, (3, 1, 2, 3)))
        for other in ((0, 1, 2, 3), None, 0, "rule"):
            self.assertFalse(rule == other)
            with self.assertRaises(TypeError):
                rule < other
        self.assertTrue(rule < Rule(source, goal, (3, 1, 2, 3)) and not rule < rule)
        one, two = Space(World((3,)), ("named", 1)), Space(World((3,)), ("named", 2))
        self.assertFalse(Rule(one, one, [0]) == Rule(one, two, [0]))
        hand = Space(World((1,)), ("hand", 0))
        single = Space(World((1,)), ("named", 1))
        self.assertFalse(Rule(single, single, [0]) == Rule(hand, single, [0]))
        self.assertFalse(Rule(single, single, [0]) == Rule(single, hand, [0]))
        self.assertFalse(Rule(one, one, [0]) == Rule(single, single, [0]))
        self.assertFalse(Rule(single, single, [0]) == Rule.identity(Space(World((1, 0)), ("named", 1))))

    def test_from_table(self):
        for sizes, kind, other in PAIRS:
            source, goal = spaces(sizes, kind, other)
            tables = slow_tables(slow_moves(sizes, kind), slow_moves(sizes, other))
            for table in tables[:40]:
                rule = Rule.from_table(source, goal, list(table))
                self.assertEqual(rule.table, table)
                self.assertTrue(Rule(source, goal, rule.choices) == rule)
                self.bad(table + (0,), lambda: Rule.from_table(source, goal, table + (0,)))
                for at in range(len(table)):
                    self.bad(table[:at] + table[at + 1:], lambda: Rule.from_table(source, goal, table[:at] + table[at + 1:]))
                    for answer in range(-1, goal.size + 1):
                        spoilt = table[:at] + (answer,) + table[at + 1:]
                        if spoilt not in tables:
                            self.bad(spoilt, lambda: Rule.from_table(source, goal, list(spoilt)))

    def test_table_with_negative_numbers(self):
        source, goal = spaces((3,), ("one", 0), ("one", 0))
        self.bad((-3, -2, -1), lambda: Rule.from_table(source, goal, [-3, -2, -1]))
        self.bad((), lambda: Rule.from_table(source, goal, ()))
        self.bad((1, 2, 0), lambda: Rule.from_table(source, goal, (1, 2, 0)))

    def test_identity(self):
        for sizes, kind, other in PAIRS:
            for space in spaces(sizes, kind, other):
                rule = Rule.identity(space)
                self.assertEqual(rule.table, tuple(range(space.size)))
                self.assertEqual([rule(value) for value in space], list(space))
                self.assertIs(rule.source, space)
                self.assertIs(rule.goal, space)


if __name__ == "__main__":
    unittest.main()
