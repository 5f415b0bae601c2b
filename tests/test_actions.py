"""Tests of nonames.actions and of the made things in nonames.cosets (points 41 to 48)."""

import unittest
from itertools import combinations_with_replacement
from nonames.actions import Action, parting
from nonames.cosets import cosets_in, made_thing
from nonames.errors import BadAction
from nonames.groups import all_groups
from nonames.lattices import Lattice
from nonames.spaces import Space
from nonames.worlds import World
from slow import slow_closed
from slow_rules import orbits_in, rests_of, slow_bijections, slow_fitting, slow_moves

ALL = (0, 1, 2, 3, 4, 5)
KINDS = [("one", 0), ("hand", 0), ("row", 0), ("round", 0), ("web", 0), ("lot", 0, 2), ("named", 0), ("named", 3),
         ("either", ("named", 1), ("one", 0)), ("parts", 0, (1, 2)), ("both", ("one", 0), ("hand", 0))]


class CosetsTest(unittest.TestCase):
    def test_made_things(self):
        world = World((3,))
        self.assertEqual(made_thing(world, (0, 1)), ((0, 1, 2), (0, 2, 1)))
        self.assertEqual(made_thing(world, (4,)), ((2, 0, 1),))
        self.assertEqual(made_thing(World((0,)), (0,)), ((),))

    def test_made_things_of_all_cosets(self):
        for sizes in ((3,), (2, 2), (3, 2)):
            world = World(sizes)
            lattice = Lattice(world)
            for number, group in enumerate(lattice.groups):
                for part in lattice.held(number):
                    made = [made_thing(world, coset) for coset in cosets_in(world, lattice.groups[part], group)]
                    rows = [row for thing in made for row in thing]
                    self.assertEqual(sorted(rows), [world.renamings[member] for member in group])
                    self.assertTrue(all(list(thing) == sorted(thing) and isinstance(thing, tuple) for thing in made))
                    self.assertEqual(made, sorted(made))


class ActionsTest(unittest.TestCase):
    def bad(self, world, group, moves):
        with self.assertRaises(BadAction) as caught:
            Action(world, group, moves)
        self.assertEqual(caught.exception.given, tuple(tuple(row) for row in moves))
        self.assertIsInstance(caught.exception.given, tuple)
        self.assertTrue(all(isinstance(row, tuple) for row in caught.exception.given))

    def test_example(self):
        action = Action.of_cosets(World((3,)), ALL, ((0, 5),))
        self.assertEqual(
            [action.moves, action.stabilizer(1), action.rests((0, 1))],
            [((0, 1, 2), (1, 0, 2), (2, 1, 0), (1, 2, 0), (2, 0, 1), (0, 2, 1)), (0, 2), [2]])

    def test_attributes(self):
        world = World((3,))
        action = Action(world, (0, 1), [[0, 1, 2, 3], (1, 0, 2, 3)])
        self.assertIs(action.world, world)
        self.assertEqual((action.group, action.moves, action.size), ((0, 1), ((0, 1, 2, 3), (1, 0, 2, 3)), 4))

    def test_lists_changed_afterwards(self):
        moves = [[0, 1], [1, 0]]
        action = Action(World((2,)), (0, 1), moves)
        moves[1][0] = 5
        moves.append([0, 1])
        self.assertEqual(action.moves, ((0, 1), (1, 0)))
        parts = [(0,)]
        action = Action.of_cosets(World((2,)), (0, 1), parts)
        parts.append((0, 1))
        self.assertEqual(action.size, 2)

    def test_actions_without_things(self):
        action = Action(World((3,)), (0, 3, 4), [[], [], []])
        self.assertEqual((action.size, action.moves, action.orbits()), (0, ((), (), ()), []))
        self.assertEqual((action.rests((0, 3, 4)), action.rests(()), action.image(World((0,)))), ([], [], (0,)))
        self.assertEqual(action.matched(action), ())

    def test_bad_actions(self):
        world = World((3,))
        good = [(0, 1, 2), (0, 2, 1)]
        Action(world, (0, 1), good)
        self.bad(world, (0, 1), [])
        self.bad(world, (0, 1), good[:1])
        self.bad(world, (0, 1), good + [(0, 1, 2)])
        self.bad(world, (0, 1), [(0, 1, 2), (0, 1)])
        self.bad(world, (0, 1), [[0, 1], (0, 1, 2)])
        self.bad(world, (0, 1), [(), (0,)])
        self.bad(world, (0, 1), [(0, 1, 2), (0, 2, 2)])
        self.bad(world, (0, 1), [[0, 1, 2], [0, -1, 1]])
        self.bad(world, (0, 1), [[0, 1, 2], [0, 3, 1]])
        # Only "1 then 1" does not keep the moves.
        self.bad(world, (0, 1), [[0, 1, 2], [1, 2, 0]])
        self.bad(world, (0, 1), [[0, 2, 1], [0, 1, 2]])
        # Only "0 then 0" does not.
        self.bad(world, (0,), [(1, 0)])
        self.bad(world, (0,), [])

    def test_moves_that_are_spoilt_for_some_members(self):
        world = World((3,))
        moves = [list(row) for row in Action.of_sort(world, 0, ALL).moves]
        for at in range(6):
            for first in range(3):
                for second in range(first):
                    row = list(moves[at])
                    row[first], row[second] = row[second], row[first]
                    self.bad(world, ALL, moves[:at] + [row] + moves[at + 1:])
        # Each pair of different members keeps the moves here, "3 then 3" and "4 then 4" do not.
        self.bad(world, (0, 3, 4), [(0, 1), (1, 0), (1, 0)])
        self.bad(world, (0, 3, 4), [(0, 1), (1, 0), (0, 1)])
        # The moves do the first member first.
        turned = [moves[world.inverse(at)] for at in range(6)]
        self.bad(world, ALL, turned)

    def test_of_space(self):
        for sizes in ((3,), (2, 1)):
            world = World(sizes)
            for group in all_groups(world):
                for kind in KINDS:
                    action = Action.of_space(Space(world, kind), group)
                    moves = slow_moves(sizes, kind)
                    self.assertEqual(action.moves, tuple(tuple(moves[member]) for member in group))
                    self.assertEqual((action.group, action.size), (group, len(moves[0])))

    def test_of_sort(self):
        for sizes in ((3,), (2, 2), (0, 2), (3, 0)):
            world = World(sizes)
            for group in all_groups(world):
                for sort, size in enumerate(sizes):
                    start = sum(sizes[:sort])
                    action = Action.of_sort(world, sort, group)
                    self.assertEqual(action.moves, tuple(
                        tuple(number - start for number in world.renamings[member][start:start + size]) for member in group))
                    self.assertEqual(action.size, size)

    def test_of_cosets(self):
        for sizes in ((3,), (2, 2)):
            world = World(sizes)
            lattice = Lattice(world)
            for number, group in enumerate(lattice.groups):
                held = [lattice.groups[part] for part in lattice.held(number)]
                for parts in [()] + [(part,) for part in held] + list(combinations_with_replacement(held[::-1], 2)):
                    action = Action.of_cosets(world, group, list(parts))
                    things = [(at, coset) for at, part in enumerate(parts) for coset in cosets_in(world, part, group)]
                    self.assertEqual(action.size, len(things))
                    for member, row in zip(group, action.moves):
                        moved = [(at, tuple(sorted(world.then(other, member) for other in coset))) for at, coset in things]
                        self.assertEqual([things[x] for x in row], moved)

    def test_moved_orbits_stabilizers_and_rests(self):
        world = World((3,))
        for group in all_groups(world):
            for kind in KINDS:
                action = Action.of_space(Space(world, kind), group)
                self.assertEqual(action.orbits(), orbits_in(action.moves))
                for thing in range(action.size):
                    self.assertEqual([action.moved(thing, member) for member in group],
                                     [row[thing] for row in action.moves])
                    self.assertEqual(action.stabilizer(thing),
                                     tuple(group[at] for at in rests_of(action.moves, thing)))
                for part in [(), group, group[:2], group[-1:]]:
                    self.assertEqual(action.rests(part),
                                     [thing for thing in range(action.size)
                                      if all(action.moved(thing, member) == thing for member in part)])

    def test_returned_lists_changed_by_the_caller(self):
        action = Action.of_sort(World((3,)), 0, ALL)
        for call in (action.orbits, lambda: action.rests(())):
            first = call()
            kept = list(first)
            first.append(9)
            first[0] = None
            self.assertEqual(call(), kept)

    def test_image(self):
        world = World((3,))
        small = World((2,))
        action = Action.of_space(Space(world, ("hand", 0)), ALL)
        self.assertEqual(action.image(small), (0, 1))
        self.assertEqual(Action.of_space(Space(world, ("hand", 0)), (0, 3, 4)).image(small), (0,))
        for group in all_groups(World((4,))):
            self.assertEqual(Action.of_sort(World((4,)), 0, group).image(World((4,))), group)
        action = Action.of_cosets(world, (0, 3, 4), ((0,),))
        image = action.image(World((3,)))
        self.assertEqual(image, tuple(sorted(set(World((3,)).number(row) for row in action.moves))))
        self.assertEqual(image, slow_closed(World((3,)), image))

    def lots(self, world, group, most):
        """Actions of a group on up to two lots of cosets, in both orders."""
        lattice = Lattice(world)
        held = [lattice.groups[part] for part in lattice.held(lattice.number(group))]
        rows = [(), *[(part,) for part in held], *[(part, other) for part in held for other in held]]
        actions = [Action.of_cosets(world, group, parts) for parts in rows]
        return lattice, [action for action in actions if action.size <= most]

    def test_matched_and_parting(self):
        for sizes, group, most in (((3,), ALL, 6), ((3,), (0, 3, 4), 4), ((2, 2), (0, 1, 2, 3), 4), ((2,), (0, 1), 3)):
            lattice, actions = self.lots(World(sizes), group, most)
            alike = 0
            for first in actions:
                for second in actions:
                    maps = slow_bijections(first.moves, second.moves)
                    found = first.matched(second)
                    apart = [number for number in lattice.held(lattice.number(group))
                             if len(first.rests(lattice.groups[number])) != len(second.rests(lattice.groups[number]))]
                    self.assertEqual(parting(lattice, first, second), apart[0] if apart else None)
                    self.assertEqual(found is None, not maps)
                    self.assertEqual(found is None, bool(apart))
                    if found is not None:
                        alike += 1
                        self.assertIn(found, maps)
                        goals = slow_fitting(first.moves, second.moves)
                        self.assertEqual([found[orbit[0]] for orbit in first.orbits()], goals)
            self.assertGreater(alike, len(actions))

    def test_matched_in_another_order(self):
        world = World((3,))
        first = Action.of_cosets(world, ALL, (ALL, (0, 1)))
        second = Action.of_cosets(world, ALL, ((0, 2), ALL))
        # Each thing has a stabilizer of its own, so there is only one map; thing 1 goes to the least possible thing, 2.
        rests = [[action.stabilizer(thing) for thing in range(4)] for action in (first, second)]
        self.assertEqual([rests[0][:2], rests[1]], [[ALL, (0, 1)], [(0, 2), (0, 5), (0, 1), ALL]])
        self.assertEqual(first.matched(second), tuple(rests[1].index(rest) for rest in rests[0]))
        self.assertEqual(second.matched(first), tuple(rests[0].index(rest) for rest in rests[1]))
        twice = Action.of_cosets(world, ALL, ((0, 1), (0, 1)))
        self.assertEqual(twice.matched(twice), (0, 1, 2, 3, 4, 5))

    def test_equally_many_things_but_not_alike(self):
        world = World((3,))
        lattice = Lattice(world)
        first = Action.of_cosets(world, ALL, ((0, 1),))
        second = Action.of_cosets(world, ALL, ((0, 3, 4), ALL))
        self.assertEqual((first.size, second.size), (3, 3))
        self.assertIsNone(first.matched(second))
        self.assertEqual([len(action.rests(lattice.groups[1])) for action in (first, second)], [1, 1])
        self.assertEqual(parting(lattice, first, second), 4)
        more = Action.of_cosets(world, ALL, (ALL, ALL, ALL))
        self.assertEqual(parting(lattice, first, more), 1)
        self.assertEqual(parting(lattice, first, Action.of_cosets(world, ALL, ((0, 1), ALL))), 0)
        self.assertIsNone(first.matched(Action.of_cosets(world, ALL, ((0, 1), ALL))))
        self.assertIsNone(Action.of_cosets(world, ALL, ()).matched(first))


if __name__ == "__main__":
    unittest.main()
