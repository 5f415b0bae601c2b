"""Tests of nonames.matches (points 87 to 94)."""

import unittest
from nonames.errors import BadMove, BadPick, NoPlan, NothingToUndo
from nonames.families import Family
from nonames.helped import unhelped_groups
from nonames.lattices import Lattice
from nonames.matches import Match, play_plan, trial
from nonames.pickers import DrawnPicker, Picker, StubbornPicker
from nonames.plans import find_plan, good_groups
from nonames.spaces import Space
from nonames.worlds import World


class WrongPicker(Picker):
    def pick(self, family):
        return (99,) if self.asked else family.picking_for(0)


class FailingPicker(Picker):
    def pick(self, family):
        raise KeyError("no answer")


class MatchTest(unittest.TestCase):
    def setUp(self):
        self.lattice = Lattice(World((3,)))
        self.helpers = [("pick", 3), ("pick", 2)]
        self.match = Match(self.lattice, 5, (0,), self.helpers)

    def state(self, match):
        return (match.current, match.over, match.waiting, match.history())

    def undone(self, match):
        """All states down to the beginning."""
        found = []
        while True:
            found.append(self.state(match))
            try:
                self.assertIsNone(match.undo())
            except NothingToUndo as error:
                self.assertIsNone(error.given)
                return found

    def bad(self, error, given, method, *values):
        before = self.state(self.match)
        with self.assertRaises(error) as caught:
            method(*values)
        self.assertEqual(caught.exception.given, given)
        self.assertEqual(self.state(self.match), before)

    def test_example(self):
        match = Match(self.lattice, 5, (0, 1, 2, 3), [("pick", 3)])
        plan = find_plan(self.lattice, 5, match.good, helpers=match.helpers)
        self.assertEqual([trial(match, plan, DrawnPicker(5)), match.current, play_plan(match, plan, StubbornPicker(3)),
                          match.history()], [[5, 1], 5, [5, 3], [(4, 0, (0,), (0, 2), 3)]])

    def test_attributes(self):
        good, helpers = [0, 1], [("pick", 2)]
        match = Match(self.lattice, 4, good, helpers)
        good.append(4)
        helpers.append(("pick", 3))
        self.assertIs(match.lattice, self.lattice)
        self.assertEqual((match.good, match.helpers), ((0, 1), (("pick", 2),)))
        self.assertEqual(self.state(match), (4, False, None, []))
        self.assertEqual(self.state(Match(self.lattice, 1, (0, 1), ())), (1, True, None, []))

    def test_from_structure(self):
        world = self.lattice.world
        source, goal = Space(world, ("one", 0)), Space(world, ("row", 0))
        for number, start in ((0, 1), (1, 3), (2, 2)):
            match = Match.from_structure(self.lattice, source, number, goal, helpers=self.helpers)
            self.assertEqual((match.current, match.good, match.helpers), (start, (0,), tuple(self.helpers)))
            self.assertEqual(self.lattice.groups[start], source.stabilizer(number))
            self.assertIs(match.lattice, self.lattice)
        match = Match.from_structure(self.lattice, Space(world, ("round", 0)), 1, source, helpers=[])
        self.assertEqual((match.current, match.good, match.over), (4, good_groups(self.lattice, source), False))

    def test_ask_and_answer(self):
        family = self.match.ask(4, 0, [0])
        self.assertIsInstance(family, Family)
        self.assertEqual((family.stand, family.base, family.helper, family.parts), (5, 4, ("pick", 3), (0,)))
        self.assertIs(self.match.waiting, family)
        self.assertEqual((self.match.current, self.match.over, self.match.history()), (5, False, []))
        self.assertEqual(self.match.answer([0, 1]), 2)
        self.assertEqual(self.state(self.match), (2, False, None, [(4, 0, (0,), (0, 1), 2)]))
        family = self.match.ask(2, 1, (0,))
        self.assertEqual((family.stand, family.places), (2, (0,)))
        self.assertEqual(self.match.answer((1,)), 0)
        self.assertEqual(self.state(self.match), (0, True, None, [(4, 0, (0,), (0, 1), 2), (2, 1, (0,), (1,), 0)]))

    def test_history_is_a_new_list(self):
        self.match.ask(4, 0, (0,))
        picks = [0, 1]
        self.match.answer(picks)
        picks[0] = 2
        self.match.history().clear()
        self.assertEqual(self.match.history(), [(4, 0, (0,), (0, 1), 2)])

    def test_bad_moves(self):
        for parts in ((0,), [0]):
            self.bad(BadMove, (4, 2, (0,)), self.match.ask, 4, 2, parts)
            self.bad(BadMove, (4, -1, (0,)), self.match.ask, 4, -1, parts)
            self.bad(BadMove, (4, 10 ** 20, (0,)), self.match.ask, 4, 10 ** 20, parts)
            # The lot has another number of things; the base does not hold a part.
            self.bad(BadMove, (4, 1, (0,)), self.match.ask, 4, 1, parts)
        self.bad(BadMove, (4, 0, (1,)), self.match.ask, 4, 0, (1,))
        self.bad(BadMove, (4, 0, ()), self.match.ask, 4, 0, [])
        self.match.ask(4, 0, (0,))
        self.bad(BadMove, (4, 0, (0,)), self.match.ask, 4, 0, [0])
        self.bad(BadMove, (1, 1, (0,)), self.match.ask, 1, 1, [0])
        self.match.answer((0, 1))
        # The stand does not hold the base.
        self.bad(BadMove, (4, 0, (0,)), self.match.ask, 4, 0, (0,))
        self.match.ask(2, 1, (0,))
        self.match.answer((0,))
        self.assertTrue(self.match.over)
        self.bad(BadMove, (0, 0, (0, 0, 0)), self.match.ask, 0, 0, [0, 0, 0])
        self.assertEqual(len(self.undone(self.match)), 5)

    def test_bad_picks(self):
        for picks in ((), (0, 0), [0, 1]):
            self.bad(BadPick, tuple(picks), self.match.answer, picks)
        self.match.ask(4, 0, (0,))
        for picks in ((), [0], (0, 0, 0), [0, 3], (-1, 0), ((0,), 0)):
            self.bad(BadPick, tuple(picks), self.match.answer, picks)
        self.match.answer((0, 0))
        self.bad(BadPick, (0, 0), self.match.answer, [0, 0])
        self.assertEqual(len(self.undone(self.match)), 3)

    def test_undo(self):
        self.bad(NothingToUndo, None, self.match.undo)
        first = self.match.ask(4, 0, (0,))
        self.match.answer((0, 1))
        second = self.match.ask(2, 1, (0,))
        self.match.answer((1,))
        rounds = [(4, 0, (0,), (0, 1), 2), (2, 1, (0,), (1,), 0)]
        self.assertEqual(self.undone(self.match), [(0, True, None, rounds), (2, False, second, rounds[:1]),
                                                   (2, False, None, rounds[:1]), (5, False, first, []), (5, False, None, [])])
        self.bad(NothingToUndo, None, self.match.undo)

    def test_going_on_after_an_undo(self):
        first = self.match.ask(4, 0, (0,))
        self.match.answer((0, 1))
        self.match.undo()
        self.assertIs(self.match.waiting, first)
        self.bad(BadMove, (4, 0, (0,)), self.match.ask, 4, 0, (0,))
        self.assertEqual(self.match.answer((0, 0)), 1)
        self.assertEqual(self.match.history(), [(4, 0, (0,), (0, 0), 1)])
        self.match.undo()
        self.match.undo()
        self.match.ask(1, 1, (0,))
        self.match.undo()
        self.assertEqual(self.state(self.match), (5, False, None, []))
        self.match.ask(5, 0, (2,))
        self.match.answer((1,))
        self.assertEqual(self.match.history(), [(5, 0, (2,), (1,), self.match.current)])
        self.assertEqual(len(self.undone(self.match)), 3)

    def test_play_plan(self):
        plan = [(5, 4, 0, (0,))] + [(number, number, 1, (0,)) for number in (1, 2, 3)]
        stands = play_plan(self.match, plan, DrawnPicker(3))
        self.assertEqual(stands, [5, 2, 0])
        self.assertEqual(self.match.history(), [(4, 0, (0,), (0, 1), 2), (2, 1, (0,), (0,), 0)])
        # A match that is over asks nothing more.
        picker = Picker()
        self.assertEqual((play_plan(self.match, (), picker), picker.asked), ([0], 0))
        self.assertEqual(len(self.undone(self.match)), 5)

    def test_first_row_of_the_stand(self):
        plan = ((5, 5, 0, (2,)), (5, 4, 0, (0,)), (5, 1, 1, (0,)))
        match = Match(self.lattice, 5, (0, 1, 2, 3), self.helpers)
        self.assertEqual(play_plan(match, plan, Picker()), [5, 2])
        self.assertEqual(match.history()[0][:3], (5, 0, (2,)))

    def test_plan_without_a_row(self):
        with self.assertRaises(NoPlan) as caught:
            play_plan(self.match, [(5, 4, 0, (0,)), (4, 4, 0, (0,))], DrawnPicker(3))
        self.assertEqual(caught.exception.given, 2)
        # What was asked and answered before stays.
        self.assertEqual(self.state(self.match), (2, False, None, [(4, 0, (0,), (0, 1), 2)]))
        with self.assertRaises(NoPlan) as caught:
            play_plan(self.match, (), Picker())
        self.assertEqual(caught.exception.given, 2)

    def test_answer_that_changes_nothing(self):
        with self.assertRaises(NoPlan) as caught:
            play_plan(self.match, [(5, 5, 0, (5, 5, 5))], Picker())
        self.assertEqual(caught.exception.given, 5)
        self.assertEqual(self.match.history(), [(5, 0, (5, 5, 5), (0,), 5)])
        self.assertIsNone(self.match.waiting)

    def test_other_errors_go_through(self):
        with self.assertRaises(BadMove) as caught:
            play_plan(self.match, [(5, 4, 7, (0,))], Picker())
        self.assertEqual((caught.exception.given, self.state(self.match)), ((4, 7, (0,)), (5, False, None, [])))
        family = self.match.ask(1, 1, (0,))
        with self.assertRaises(BadMove) as caught:
            play_plan(self.match, [(5, 4, 0, (0,))], Picker())
        self.assertEqual((caught.exception.given, self.match.waiting), ((4, 0, (0,)), family))
        with self.assertRaises(NoPlan) as caught:
            play_plan(self.match, [], Picker())
        self.assertEqual(caught.exception.given, 5)
        self.match.undo()
        with self.assertRaises(BadPick) as caught:
            play_plan(self.match, [(5, 4, 0, (0,)), (1, 1, 1, (0,))], WrongPicker())
        self.assertEqual(caught.exception.given, (99,))
        self.assertEqual((self.match.current, self.match.waiting.base, len(self.match.history())), (1, 1, 1))
        self.assertEqual(len(self.undone(self.match)), 4)

    def test_trial(self):
        plan = [(5, 4, 0, (0,))] + [(number, number, 1, (0,)) for number in (1, 2, 3)]
        picker = DrawnPicker(3)
        before = self.state(self.match)
        self.assertEqual(trial(self.match, plan, picker), [5, 2, 0])
        self.assertEqual((self.state(self.match), picker.asked), (before, 2))
        self.bad(NothingToUndo, None, self.match.undo)
        self.match.ask(5, 0, (2,))
        self.match.answer((0,))
        before = self.state(self.match)
        self.assertEqual(trial(self.match, plan, picker), [self.match.current, 0])
        self.assertEqual((self.state(self.match), picker.asked), (before, 3))
        self.assertEqual(len(self.undone(self.match)), 3)

    def test_trial_with_an_error(self):
        self.match.ask(4, 0, (0,))
        self.match.answer((0, 1))
        before = self.state(self.match)
        for plan, picker, error in (([], Picker(), NoPlan), ([(2, 2, 0, (2, 2, 2))], Picker(), NoPlan),
                                    ([(2, 2, 5, (0,))], Picker(), BadMove), ([(2, 2, 1, (0,))], FailingPicker(), KeyError)):
            with self.assertRaises(error):
                trial(self.match, plan, picker)
            self.assertEqual(self.state(self.match), before)
        waiting = self.match.ask(2, 1, (0,))
        with self.assertRaises(BadMove):
            trial(self.match, [(2, 2, 1, (0,))], Picker())
        self.assertIs(self.match.waiting, waiting)
        self.assertEqual(len(self.undone(self.match)), 4)

    def test_sound_plans_come_to_an_end(self):
        for sizes, kind, helpers in (((3,), ("row", 0), [("pick", 2), ("pick", 3)]), ((2, 2), ("pairing", ("one", 0), ("one", 1)),
                                     [("pick", 2)]), ((4,), ("row", 0), [("pick", 2), ("make", 4, ("tree", 0)), ("pick", 3)])):
            lattice = Lattice(World(sizes))
            good = good_groups(lattice, Space(lattice.world, kind))
            for start in range(0, len(lattice.groups), 1 if len(lattice.groups) < 10 else 7):
                plan = find_plan(lattice, start, good, helpers=helpers)
                match = Match(lattice, start, good, helpers)
                pickers = [Picker()] + [DrawnPicker(number) for number in (1, 5, 12345)]
                for picker in pickers + [StubbornPicker(number) for number in lattice.held(start)]:
                    stands = trial(match, plan, picker)
                    self.assertIn(stands[-1], good)
                    self.assertFalse(set(stands[:-1]) & set(good))
                    self.assertEqual(stands[0], start)

    def test_groups_that_block_are_kept(self):
        for helpers in (self.helpers[:1], self.helpers[1:], [("make", 3, ("round", 0))]):
            for number in unhelped_groups(self.lattice, helpers):
                for base in range(6):
                    for parts in ((0,), (1,), (0, 1), (0, 0), (base,), (base,) * 3):
                        if Family.fits(self.lattice, 5, base, helpers[0], parts):
                            self.assertTrue(Family(self.lattice, 5, base, helpers[0], parts).kept(number))


if __name__ == "__main__":
    unittest.main()
