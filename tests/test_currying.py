"""Tests of nonames.currying (point 60)."""

import unittest
from nonames.currying import curry, uncurry
from nonames.errors import BadKind, BadRule, TooMany
from nonames.rulecounts import count_rules, rule_at
from nonames.rules import Rule
from nonames.spaces import Space
from nonames.worlds import World
from slow import slow_list

ONE, HAND, ROW, WEB, TWO = ("one", 0), ("hand", 0), ("row", 0), ("web", 0), ("lot", 0, 2)
NONE = ("named", 0)
TRIPLES = [(ONE, ONE, ONE), (HAND, ONE, HAND), (ONE, HAND, TWO), (ROW, ("named", 2), HAND), (TWO, ONE, ("named", 2)),
           (NONE, ONE, ONE), (ONE, NONE, ONE), (ONE, NONE, NONE), (NONE, NONE, NONE), (ROW, ONE, ("named", 1)),
           (("both", HAND, HAND), ONE, ("either", ONE, HAND)), (ONE, ONE, ("both", HAND, ONE)), (HAND, HAND, ROW)]


def deeper(kind, levels):
    for _ in range(levels):
        kind = ("lots", kind, 1)
    return kind


class CurryTest(unittest.TestCase):
    def bad(self, error, given, function, rule):
        with self.assertRaises(error) as caught:
            function(rule)
        self.assertEqual(caught.exception.given, given)

    def test_example(self):
        world = World((2,))
        rule = Rule(Space(world, ("both", ONE, ONE)), Space(world, ONE), [0, 0])
        curried = curry(rule)
        self.assertEqual([rule.table, curried(0), curried(1), uncurry(curried) == rule], [(0, 0, 1, 1), (0, 0), (1, 1), True])

    def test_there_and_back(self):
        for sizes in ((2,), (3,), (0,), (1,)):
            world = World(sizes)
            for left, right, answers in TRIPLES:
                if len(slow_list(sizes, answers)) ** len(slow_list(sizes, right)) > 100:
                    continue
                source = Space(world, ("both", left, right))
                goal = Space(world, answers)
                for position in range(min(count_rules(source, goal), 6)):
                    rule = rule_at(source, goal, position)
                    curried = curry(rule)
                    self.assertEqual((curried.source.kind, curried.goal.kind), (left, ("maps", right, answers)))
                    self.assertEqual((curried.source.world.sizes, curried.goal.world.sizes), (sizes, sizes))
                    for first in slow_list(sizes, left):
                        self.assertEqual(curried(first), tuple(rule((first, second)) for second in slow_list(sizes, right)))
                    back = uncurry(curried)
                    self.assertTrue(back == rule)
                    self.assertEqual((back.source.kind, back.goal.kind, back.table), (source.kind, answers, rule.table))

    def test_back_and_there(self):
        world = World((3,))
        for left, right, answers in TRIPLES:
            if len(slow_list((3,), answers)) ** len(slow_list((3,), right)) > 100:
                continue
            source, goal = Space(world, left), Space(world, ("maps", right, answers))
            many = count_rules(source, goal)
            for position in sorted({0, many // 2, many - 1} & set(range(many))):
                rule = rule_at(source, goal, position)
                plain = uncurry(rule)
                for first, second in plain.source:
                    self.assertEqual(plain((first, second)), rule(first)[slow_list((3,), right).index(second)])
                self.assertTrue(curry(plain) == rule)

    def test_wrong_kinds(self):
        world = World((3,))
        rule = Rule.identity(Space(world, ONE))
        self.bad(BadRule, (0,), curry, rule)
        self.bad(BadRule, (0,), uncurry, rule)
        self.bad(BadRule, (0, 1), curry, Rule(Space(world, ("either", ONE, HAND)), Space(world, ("named", 2)), [0, 1]))
        self.bad(BadRule, (), curry, Rule(Space(world, ("maps", ONE, NONE)), Space(world, ONE), []))
        self.bad(BadRule, (0, 1), uncurry, Rule.identity(Space(world, ("both", ONE, ONE))))
        self.bad(BadRule, (0,), uncurry, Rule(Space(world, ROW), Space(world, ("pairing", ONE, ONE)), [0]))

    def test_wrong_kinds_ahead_of_the_errors_of_the_space(self):
        world = World((3,))
        deep = Space(world, deeper(ONE, 5))
        self.bad(BadRule, (0,), curry, Rule.identity(deep))
        self.bad(BadRule, (0,), uncurry, Rule.identity(deep))

    def test_kind_that_is_a_level_too_deep(self):
        world = World((3,))
        deep = deeper(ONE, 5)
        source = Space(world, ("both", HAND, deep[1]))
        rule = rule_at(source, Space(world, ("named", 1)), 0)
        self.assertEqual(curry(rule).goal.kind, ("maps", deep[1], ("named", 1)))
        # The answers stand one level deeper in the new kind.
        rule = rule_at(Space(world, ("both", ROW, ONE)), Space(world, deep), 0)
        self.bad(BadKind, ONE, curry, rule)
        rule = rule_at(Space(world, deep), Space(world, ("maps", HAND, ("named", 1))), 0)
        self.bad(BadKind, ONE, uncurry, rule)

    def test_kind_with_too_many_structures(self):
        world = World((3,))
        rule = rule_at(Space(world, ("both", HAND, WEB)), Space(world, ("named", 2)), 0)
        self.bad(TooMany, ("maps", WEB, ("named", 2)), curry, rule)
        rule = rule_at(Space(world, ("both", ROW, WEB)), Space(world, ("named", 1)), 0)
        curried = curry(rule)
        self.assertTrue(uncurry(curried) == rule)
        many = ("both", ROW, ("named", 9))
        rule = rule_at(Space(world, many), Space(world, ("maps", HAND, ("named", 1))), 0)
        self.bad(TooMany, ("both", many, HAND), uncurry, rule)
        # Also where the new space has too many structures though the given rule has nothing to answer.
        rule = Rule(Space(world, ("both", NONE, WEB)), Space(world, ROW), [])
        self.bad(TooMany, ("maps", WEB, ROW), curry, rule)


if __name__ == "__main__":
    unittest.main()
