"""Tests of nonames.verdicts (points 114 to 118)."""

import unittest
from nonames.errors import BadMove, BadStructure, NoPlan
from nonames.lattices import Lattice
from nonames.pickers import DrawnPicker, Picker, StubbornPicker
from nonames.plans import find_plan, good_groups, judge_plan
from nonames.rulecounts import count_rules, find_rule, rule_at
from nonames.spaces import Space
from nonames.verdicts import carry_out, carry_plan, find_verdict, judge_verdict
from nonames.worlds import World

KINDS = [("named", 0), ("named", 1), ("one", 0), ("round", 0), ("hand", 0), ("row", 0), ("lot", 0, 2), ("web", 0),
         ("either", ("one", 0), ("round", 0)), ("lots", ("one", 0), 2)]
SETS = [(), [("pick", 2)], [("pick", 3)], (("pick", 3), ("pick", 2)), [("pick", 6), ("make", 3, ("round", 0))],
        [("make", 4, ("hand", 0))]]


class VerdictTest(unittest.TestCase):
    @classmethod
    def setUpClass(cls):
        cls.lattices = {sizes: Lattice(World(sizes)) for sizes in ((0,), (3,), (2, 2), (4,))}
        cls.spaces = {sizes: [Space(lattice.world, kind) for kind in KINDS] for sizes, lattice in cls.lattices.items()}

    def setUp(self):
        self.lattice = self.lattices[(3,)]
        self.three = [("pick", 3)]
        self.both = [("pick", 3), ("pick", 2)]

    def space(self, kind):
        return Space(self.lattice.world, kind)

    def test_example(self):
        source, goal = self.space(("round", 0)), self.space(("one", 0))
        verdict = find_verdict(self.lattice, source, goal, helpers=self.three)
        self.assertEqual([verdict, carry_out(self.lattice, source, goal, verdict, (0, 2, 1), DrawnPicker(2), helpers=self.three),
                          find_verdict(self.lattice, source, goal)],
                         [('plans', (((4, 4, 0, (0,)),),)), ((4, 0), 0), ('block', 0, 4)])

    def slow_verdict(self, lattice, source, goal, helpers):
        if count_rules(source, goal) > 0:
            return ("rule", rule_at(source, goal, 0).choices)
        good = good_groups(lattice, goal)
        plans = []
        for orbit in source.orbits():
            try:
                plans.append(find_plan(lattice, lattice.number(source.stabilizer(orbit[0])), good, helpers=helpers))
            except NoPlan as error:
                return ("block", orbit[0], error.given)
        return ("plans", tuple(plans))

    def test_verdicts_of_many_questions(self):
        words = set()
        for sizes, lattice in self.lattices.items():
            for source in self.spaces[sizes]:
                for goal in self.spaces[sizes]:
                    for helpers in SETS:
                        verdict = find_verdict(lattice, source, goal, helpers=helpers)
                        self.assertEqual(verdict, self.slow_verdict(lattice, source, goal, helpers))
                        self.assertIs(judge_verdict(lattice, source, goal, verdict, helpers=helpers), True)
                        words.add((verdict[0], bool(helpers)))
                    self.assertEqual(find_verdict(lattice, source, goal), find_verdict(lattice, source, goal, helpers=[]))
        self.assertEqual(words, {("rule", False), ("rule", True), ("plans", True), ("block", False), ("block", True)})

    def test_sources_and_goals_without_structures(self):
        none, one = self.space(("named", 0)), self.space(("one", 0))
        self.assertEqual(find_verdict(self.lattice, none, one), ("rule", ()))
        self.assertEqual(find_verdict(self.lattice, none, none, helpers=self.both), ("rule", ()))
        self.assertEqual(find_verdict(self.lattice, one, none, helpers=self.both), ("block", 0, 0))
        for verdict in (("plans", ()), ("rule", ())):
            self.assertIs(judge_verdict(self.lattice, none, one, verdict), True)
        self.assertIs(judge_verdict(self.lattice, none, one, ("block", 0, 0)), False)
        self.assertIs(judge_verdict(self.lattice, one, none, ("block", 0, 0), helpers=self.both), True)

    def test_judge_rule(self):
        web, hand = self.space(("web", 0)), self.space(("lot", 0, 1))
        verdict = find_verdict(self.lattice, self.space(("row", 0)), hand)
        self.assertEqual(verdict, ("rule", (0,)))
        for choices, sound in (((0,), True), ((1,), True), ((2,), True), ((3,), False), ((-1,), False), ((), False),
                               ((0, 0), False), ((10 ** 9,), False)):
            self.assertIs(judge_verdict(self.lattice, self.space(("row", 0)), hand, ("rule", choices)), sound)
        for choices, sound in (((0, 0, 0, 3), True), ((3, 1, 0, 0), True), ((1, 1, 0, 0), False), ((0, 2, 0, 0), False),
                               ((0, 0, 0), False)):
            self.assertIs(judge_verdict(self.lattice, web, web, ("rule", choices), helpers=self.three), sound)

    def test_judge_plans(self):
        source, goal = self.space(("either", ("round", 0), ("named", 1))), self.space(("one", 0))
        word, plans = find_verdict(self.lattice, source, goal, helpers=self.three)
        first, second = plans
        self.assertEqual((word, first, second), ("plans", ((4, 4, 0, (0,)),), ((4, 4, 0, (0,)), (5, 4, 0, (0,)))))
        for given, sound in (((first, second), True), ((first,), False), ((), False), ((first, second, second), False),
                             ((second, first), False), ((first, first), False), ((second, second), False),
                             ((first, ()), False), ((first, second[::-1]), False), ((first, second[:1]), False),
                             ((first, second[:1] + ((5, 5, 0, (1,)),)), True), ((first, second[:1] + ((5, 5, 0, (4,)),)), False),
                             ((first, second[:1] + ((5, 4, 1, (0,)),)), False), ((first, second[:1] + ((5, 4, -1, (0,)),)), False),
                             ((((4, 4, 0, (-6,)),), second), False), ((((4, 99, 0, (0,)),), second), False)):
            self.assertIs(judge_verdict(self.lattice, source, goal, ("plans", given), helpers=self.three), sound)
        self.assertIs(judge_verdict(self.lattice, source, goal, (word, plans)), False)
        self.assertIs(judge_verdict(self.lattice, source, goal, (word, plans), helpers=(("pick", 2),)), False)

    def test_judge_block(self):
        source, goal = self.space(("either", ("one", 0), ("round", 0))), self.space(("one", 0))
        self.assertEqual(source.orbits(), [(0, 1, 2), (3, 4)])
        self.assertEqual(find_verdict(self.lattice, source, goal), ("block", 3, 4))
        for number, group, sound in ((3, 4, True), (0, 4, False), (4, 4, False), (-1, 4, False), (5, 4, False), (3, 5, False),
                                     (3, 0, False), (3, 1, False), (3, -1, False), (3, -2, False), (3, 6, False), (1, 0, False)):
            self.assertIs(judge_verdict(self.lattice, source, goal, ("block", number, group)), sound)
        self.assertIs(judge_verdict(self.lattice, source, goal, ("block", 3, 4), helpers=self.three), False)
        self.assertIs(judge_verdict(self.lattice, source, goal, ("block", 3, 4), helpers=[("pick", 2)]), True)

    def test_carry_plan(self):
        plan = ((4, 4, 0, (0,)), (5, 1, 1, (0, 1)))
        self.assertEqual(carry_plan(self.lattice, plan, 0), plan)
        self.assertEqual(carry_plan(self.lattice, list(plan), 1), plan)
        self.assertEqual(carry_plan(self.lattice, plan, 2), ((4, 4, 0, (0,)), (5, 3, 1, (0, 3))))
        self.assertEqual(carry_plan(self.lattice, [(3, 3, 0, (0,)), (2, 2, 1, (2, 0))], 3), ((1, 1, 1, (1, 0)), (2, 2, 0, (0,))))
        self.assertEqual(carry_plan(self.lattice, [], 3), ())

    def test_plans_carried_by_every_renaming_and_back(self):
        for sizes, kind in (((3,), ("row", 0)), ((4,), ("one", 0)), ((2, 2), ("pairing", ("one", 0), ("one", 1)))):
            lattice = self.lattices[sizes]
            world = lattice.world
            good = good_groups(lattice, Space(world, kind))
            for start in range(0, len(lattice.groups), 1 + len(lattice.groups) // 8):
                plan = find_plan(lattice, start, good, helpers=self.both)
                for renaming in range(world.order):
                    carried = carry_plan(lattice, plan, renaming)
                    self.assertIsInstance(carried, tuple)
                    self.assertEqual(list(carried), sorted(carried))
                    slow = sorted((lattice.carried(group, renaming), lattice.carried(base, renaming), k,
                                   tuple(lattice.carried(part, renaming) for part in parts)) for group, base, k, parts in plan)
                    self.assertEqual(list(carried), slow)
                    self.assertEqual(carry_plan(lattice, carried, world.inverse(renaming)), plan)
                    self.assertTrue(judge_plan(lattice, lattice.carried(start, renaming), good, carried, helpers=self.both))

    def test_carry_out_a_rule(self):
        source, goal = self.space(("row", 0)), self.space(("round", 0))
        verdict = find_verdict(self.lattice, source, goal)
        rule = find_rule(source, goal)
        picker = Picker()
        for structure in source:
            self.assertEqual(carry_out(self.lattice, source, goal, verdict, structure, picker), ((0,), rule(structure)))
        self.assertEqual(picker.asked, 0)
        one, lot = self.space(("one", 0)), self.space(("lot", 0, 2))
        found = find_verdict(self.lattice, one, lot)
        self.assertEqual([carry_out(self.lattice, one, lot, found, thing, picker, helpers=self.three) for thing in (0, 1, 2)],
                         [((1,), (1, 2)), ((3,), (0, 2)), ((2,), (0, 1))])

    def test_carry_out_plans_from_every_structure(self):
        for sizes in ((3,), (2, 2), (4,)):
            lattice = self.lattices[sizes]
            for source in self.spaces[sizes]:
                for goal in self.spaces[sizes]:
                    verdict = find_verdict(lattice, source, goal, helpers=self.both)
                    if verdict[0] == "plans":
                        self.carry_all(lattice, source, goal, verdict)

    def carry_all(self, lattice, source, goal, verdict):
        good = good_groups(lattice, goal)
        for structure in list(source)[::1 if source.size < 10 else 5]:
            start = lattice.number(source.stabilizer(source.number(structure)))
            for picker in (Picker(), DrawnPicker(7), DrawnPicker(123456), StubbornPicker(start)):
                stands, made = carry_out(lattice, source, goal, verdict, structure, picker, helpers=self.both)
                self.assertIsInstance(stands, tuple)
                self.assertEqual((stands[0], picker.asked), (start, len(stands) - 1))
                self.assertTrue(stands[-1] in good and not set(stands[:-1]) & set(good))
                rests = [goal.structures[number] for number in goal.fixed(lattice.groups[stands[-1]])]
                self.assertEqual(made, rests[0])

    def test_plan_is_carried_along_to_the_structure(self):
        # The plan of the first thing asks group 1; from thing 1 it asks group 3, from thing 2 group 2.
        source, goal = self.space(("one", 0)), self.space(("row", 0))
        verdict = find_verdict(self.lattice, source, goal, helpers=[("pick", 2)])
        self.assertEqual(verdict, ("plans", (((1, 1, 0, (0,)),),)))
        for structure, start in ((0, 1), (1, 3), (2, 2)):
            self.assertEqual(carry_out(self.lattice, source, goal, verdict, structure, Picker(), helpers=[("pick", 2)]),
                             ((start, 0), (0, 1, 2)))
        with self.assertRaises(BadMove):
            carry_out(self.lattice, source, goal, verdict, 0, Picker())

    def test_carry_out_a_block(self):
        source, goal = self.space(("round", 0)), self.space(("one", 0))
        with self.assertRaises(NoPlan) as caught:
            carry_out(self.lattice, source, goal, ("block", 0, 4), (0, 2, 1), Picker())
        self.assertEqual(caught.exception.given, 4)
        for value in ((1, 0, 2), 0, (), ((0, 1, 2),)):
            for verdict in (("block", 0, 4), ("plans", (((4, 4, 0, (0,)),),))):
                with self.assertRaises(BadStructure) as caught:
                    carry_out(self.lattice, source, goal, verdict, value, Picker(), helpers=self.three)
                self.assertEqual(caught.exception.given, value)
        with self.assertRaises(BadStructure):
            carry_out(self.lattice, goal, goal, ("rule", (0,)), 3, Picker())


if __name__ == "__main__":
    unittest.main()
