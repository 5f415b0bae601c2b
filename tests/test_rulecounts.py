"""Tests of nonames.rulecounts (points 51, 55 and 56)."""

import unittest
from nonames.errors import NoRule
from nonames.rulecounts import allowed_answers, count_rules, find_rule, judge_refusal, position_of, refusal, rule_at
from nonames.rules import Rule
from nonames.spaces import Space
from nonames.worlds import World
from slow_rules import orbits_in, rests_of, slow_moves, slow_tables
from test_rules import PAIRS, spaces

ONE = ("one", 0)
REFUSED = [((3,), ("named", 1), ONE), ((3,), ("hand", 0), ONE), ((3,), ONE, ("row", 0)), ((3,), ("web", 0), ("hand", 0)),
           ((3,), ("named", 2), ("named", 0)), ((3,), ("either", ("row", 0), ONE), ("hand", 0)), ((2, 2), ("hand", 0), ("one", 1)),
           ((3,), ("round", 0), ("either", ONE, ("lot", 0, 2))), ((4,), ("parts", 0, (2, 2)), ("hand", 0))]


def slow_allowed(sizes, kind, other):
    moves, goals = slow_moves(sizes, kind), slow_moves(sizes, other)
    return [tuple(answer for answer in range(len(goals[0]))
                  if set(rests_of(moves, orbit[0])) <= set(rests_of(goals, answer))) for orbit in orbits_in(moves)]


class RuleCountsTest(unittest.TestCase):
    def none(self, given, make):
        with self.assertRaises(NoRule) as caught:
            make()
        self.assertEqual(caught.exception.given, given)

    def test_example(self):
        world = World((3,))
        self.none((0, (2, 1, 1)), lambda: find_rule(Space(world, ("named", 1)), Space(world, ("one", 0))))

    def test_allowed_answers(self):
        for sizes, kind, other in PAIRS + REFUSED:
            source, goal = spaces(sizes, kind, other)
            self.assertEqual(allowed_answers(source, goal), slow_allowed(sizes, kind, other))
        source, goal = spaces((3,), ("web", 0), ONE)
        self.assertEqual(allowed_answers(source, goal), [(), (2,), (0,), ()])

    def test_numbers_and_positions(self):
        for sizes, kind, other in PAIRS:
            source, goal = spaces(sizes, kind, other)
            moves = slow_moves(sizes, kind)
            firsts = [orbit[0] for orbit in orbits_in(moves)]
            tables = slow_tables(moves, slow_moves(sizes, other))
            self.assertEqual(count_rules(source, goal), len(tables))
            listed = sorted(tuple(table[first] for first in firsts) for table in tables)
            rules = [rule_at(source, goal, position) for position in range(len(listed))]
            self.assertEqual([rule.choices for rule in rules], listed)
            self.assertEqual([position_of(rule) for rule in rules], list(range(len(listed))))
            for position in (len(listed), len(listed) + 1, 10 ** 30):
                self.none(position, lambda: rule_at(source, goal, position))

    def test_positions_of_many_rules(self):
        source, goal = spaces((3,), ("both", ("row", 0), ("named", 4)), ("web", 0))
        self.assertEqual(count_rules(source, goal), 8 ** 4)
        for position in range(8 ** 4):
            if position % 7 == 0 or position > 4090:
                rule = rule_at(source, goal, position)
                self.assertEqual(position_of(rule), position)
                self.assertEqual(position, sum(choice * 8 ** (3 - at) for at, choice in enumerate(rule.choices)))
        source, goal = spaces((3,), ("both", ("row", 0), ("named", 9)), ("both", ("web", 0), ("named", 9)))
        self.assertEqual(count_rules(source, goal), 72 ** 9)
        self.assertEqual(position_of(rule_at(source, goal, 72 ** 9 - 1)), 72 ** 9 - 1)
        self.none(72 ** 9, lambda: rule_at(source, goal, 72 ** 9))

    def test_without_structures(self):
        empty, one, named = [Space(World((3,)), kind) for kind in (("named", 0), ONE, ("named", 2))]
        for goal in (empty, one, named):
            self.assertEqual((allowed_answers(empty, goal), count_rules(empty, goal), refusal(empty, goal)), ([], 1, None))
            self.assertEqual((rule_at(empty, goal, 0).choices, position_of(Rule(empty, goal, []))), ((), 0))
            self.assertEqual(find_rule(empty, goal).table, ())
            self.none(1, lambda: rule_at(empty, goal, 1))
        self.assertEqual((allowed_answers(named, empty), count_rules(named, empty)), ([(), ()], 0))
        self.assertEqual(refusal(named, empty), (0, ()))
        self.none((0, ()), lambda: find_rule(named, empty))
        self.none(0, lambda: rule_at(named, empty, 0))
        self.assertTrue(judge_refusal(one, empty, (2, ())))
        self.assertFalse(judge_refusal(one, empty, (3, ())))
        self.assertFalse(judge_refusal(empty, one, (0, (0, 0, 0))))

    def test_first_papers(self):
        for sizes, kind, other in REFUSED + PAIRS:
            source, goal = spaces(sizes, kind, other)
            moves, goals = slow_moves(sizes, kind), slow_moves(sizes, other)
            missing = [orbit[0] for orbit, answers in zip(orbits_in(moves), slow_allowed(sizes, kind, other)) if not answers]
            if not missing:
                self.assertIsNone(refusal(source, goal))
                self.assertEqual(find_rule(source, goal).choices, rule_at(source, goal, 0).choices)
                continue
            paper = (missing[0], tuple(min(set(rests_of(moves, missing[0])) - set(rests_of(goals, answer)))
                                       for answer in range(goal.size)))
            self.assertEqual(refusal(source, goal), paper)
            self.assertIs(judge_refusal(source, goal, paper), True)
            self.none(paper, lambda: find_rule(source, goal))
            self.none(0, lambda: rule_at(source, goal, 0))

    def test_first_orbit_without_allowed_answers(self):
        source, goal = spaces((3,), ("either", ("row", 0), ONE), ("hand", 0))
        self.assertEqual(refusal(source, goal), (6, (1, 1)))
        source, goal = spaces((3,), ("web", 0), ("row", 0))
        self.assertEqual(refusal(source, goal)[0], 0)

    def test_find_rule(self):
        source, goal = spaces((3,), ONE, ("web", 0))
        rule = find_rule(source, goal)
        self.assertIsInstance(rule, Rule)
        self.assertEqual(rule.choices, (0,))
        source, goal = spaces((3,), ("row", 0), ("lot", 0, 2))
        self.assertEqual(find_rule(source, goal).choices, (0,))

    def slow_judge(self, moves, goals, paper):
        number, renamings = paper
        if number not in range(len(moves[0])) or len(renamings) != len(goals[0]):
            return False
        return all(renaming in range(len(moves)) and moves[renaming][number] == number and goals[renaming][answer] != answer
                   for answer, renaming in enumerate(renamings))

    def test_spoilt_papers(self):
        for sizes, kind, other in REFUSED:
            source, goal = spaces(sizes, kind, other)
            moves, goals = slow_moves(sizes, kind), slow_moves(sizes, other)
            number, renamings = refusal(source, goal)
            papers = [(other, renamings) for other in list(range(-2, source.size + 2)) + [10 ** 20]]
            papers += [(number, renamings[:-1]), (number, renamings + (0,)), (number, renamings + renamings[:1]), (number, ())]
            for at in range(len(renamings)):
                for renaming in list(range(-3, len(moves) + 3)) + [-(10 ** 20), 10 ** 20]:
                    papers.append((number, renamings[:at] + (renaming,) + renamings[at + 1:]))
            for paper in papers:
                self.assertIs(judge_refusal(source, goal, paper), self.slow_judge(moves, goals, paper), paper)

    def test_papers_of_other_structures(self):
        # A paper may name a structure that is not the first of its orbit.
        source, goal = spaces((3,), ONE, ("row", 0))
        for number in range(3):
            mover = source.stabilizer(number)[1]
            self.assertIs(judge_refusal(source, goal, (number, (mover,) * 6)), True)
            self.assertIs(judge_refusal(source, goal, ((number + 1) % 3, (mover,) * 6)), False)


if __name__ == "__main__":
    unittest.main()
