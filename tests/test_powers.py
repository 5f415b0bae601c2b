"""Tests of nonames.powers (points 119 to 124)."""

import unittest
from itertools import combinations
from nonames.errors import BadKind, BadPower, TooMany
from nonames.helped import first_help, unhelped_groups
from nonames.lattices import Lattice
from nonames.powers import Power, makes_with
from nonames.spaces import Space
from nonames.worlds import World
from slow import built_kinds, plain_kinds

TEN = ("either", ("named", 9), ("named", 1))
MORE = ("either", ("both", TEN, TEN), ("named", 1))
WEB = ("web", 0)


def beneath(lattice, low, high):
    """Whether the class `low` lies beneath the class `high`."""
    return any(set(lattice.groups[small]) <= set(lattice.groups[great])
               for small in lattice.classes[low] for great in lattice.classes[high])


def all_powers(lattice):
    """Every power, found among all lots of classes."""
    places = range(len(lattice.classes))
    lots = [lot for many in range(len(places) + 1) for lot in combinations(places, many)]
    return [lot for lot in lots if all(low in lot for high in lot for low in places if beneath(lattice, low, high))]


class PowerTest(unittest.TestCase):
    @classmethod
    def setUpClass(cls):
        cls.lattices = {sizes: Lattice(World(sizes)) for sizes in ((0,), (2,), (3,), (2, 2), (4,), (3, 2))}

    def setUp(self):
        self.lattice = self.lattices[(3,)]
        self.nothing = Power(self.lattice, ())

    def bad(self, lattice, classes):
        for given in (tuple(classes), list(classes)):
            with self.assertRaises(BadPower) as caught:
                Power(lattice, given)
            self.assertEqual(caught.exception.given, tuple(classes))
            self.assertIsInstance(caught.exception.given, tuple)

    def of(self, *classes):
        return Power(self.lattice, classes)

    def test_example(self):
        lattice = self.lattice
        one = Power.of_space(lattice, Space(lattice.world, ("one", 0)))
        hand = Power.of_space(lattice, Space(lattice.world, ("hand", 0)))
        self.assertEqual([one.classes, hand.classes, (one >> hand).classes, (one | hand).tops, hand.group_numbers(),
                          one.holds(hand)], [(0, 1), (0, 2), (0, 2), (1, 2), (0, 4), False])

    def test_attributes(self):
        classes = [0, 1]
        power = Power(self.lattice, classes)
        classes.append(2)
        self.assertEqual(power.classes, (0, 1))
        self.assertIsInstance(power.classes, tuple)
        self.assertIs(power.lattice, self.lattice)

    def test_not_ascending(self):
        self.bad(self.lattice, (1, 0))
        self.bad(self.lattice, (0, 2, 1))
        self.bad(self.lattice, (0, 0))
        self.bad(self.lattice, (0, 1, 1))

    def test_not_the_number_of_a_class(self):
        self.bad(self.lattice, (-1,))
        self.bad(self.lattice, (-1, 0))
        self.bad(self.lattice, (0, 4))
        self.bad(self.lattice, (0, 1, 2, 3, 4))
        self.bad(self.lattice, (0, 100))
        self.bad(self.lattice, (-4, -3))

    def test_class_beneath_is_missing(self):
        self.bad(self.lattice, (1,))
        self.bad(self.lattice, (2,))
        self.bad(self.lattice, (1, 2))
        self.bad(self.lattice, (0, 3))
        self.bad(self.lattice, (0, 1, 3))
        self.bad(self.lattice, (1, 2, 3))

    def test_which_lots_are_powers(self):
        for sizes in ((0,), (2,), (3,), (2, 2)):
            lattice = self.lattices[sizes]
            powers = all_powers(lattice)
            places = range(len(lattice.classes))
            for many in range(len(places) + 1):
                for lot in combinations(places, many):
                    if lot in powers:
                        self.assertEqual(Power(lattice, lot).classes, lot)
                    else:
                        self.bad(lattice, lot)

    def test_of_space_and_of_kind(self):
        for sizes in ((0,), (2,), (3,), (2, 2)):
            lattice = self.lattices[sizes]
            for kind in plain_kinds(len(sizes)) + built_kinds(len(sizes)):
                space = Space(lattice.world, kind)
                slow = tuple(place for place, lot in enumerate(lattice.classes)
                             if any(set(lattice.groups[lot[-1]]) <= set(space.stabilizer(at))
                                    for at in range(space.size)))
                self.assertEqual(Power.of_space(lattice, space).classes, slow)
                self.assertEqual(Power.of_kind(lattice, kind).classes, slow)
                self.assertTrue(Power.of_kind(lattice, kind) == Power.of_space(lattice, space))

    def test_of_kind_with_many_structures(self):
        self.assertEqual(Power.of_kind(self.lattice, ("maps", WEB, WEB)).classes, (0, 1, 2, 3))
        self.assertEqual(Power.of_kind(self.lattice, ("maps", WEB, ("row", 0))).classes, (0,))
        self.assertEqual(Power.of_kind(self.lattice, ("maps", ("row", 0), ("both", WEB, ("hand", 0)))).classes, (0, 1, 2, 3))
        self.assertEqual(Power.of_kind(self.lattice, ("both", ("maps", WEB, ("one", 0)), WEB)).classes, (0, 1))

    def test_of_kind_raises_as_kind_marks_does(self):
        with self.assertRaises(BadKind) as caught:
            Power.of_kind(self.lattice, ("both", ("lots", MORE, 1), ("one", 1)))
        self.assertEqual(caught.exception.given, ("one", 1))
        with self.assertRaises(TooMany) as caught:
            Power.of_kind(self.lattice, ("lots", MORE, 1))
        self.assertEqual(caught.exception.given, MORE)

    def test_beneath(self):
        self.assertEqual(Power.beneath(self.lattice, ()).classes, ())
        self.assertEqual(Power.beneath(self.lattice, (1,)).classes, (0, 1))
        self.assertEqual(Power.beneath(self.lattice, [2, 1, 2]).classes, (0, 1, 2))
        self.assertEqual(Power.beneath(self.lattice, (3, 0)).classes, (0, 1, 2, 3))
        for lattice in self.lattices.values():
            places = range(len(lattice.classes))
            for high in places:
                self.assertEqual(Power.beneath(lattice, [high]).classes,
                                 tuple(low for low in places if beneath(lattice, low, high)))

    def test_full(self):
        for lattice in self.lattices.values():
            self.assertEqual(Power.full(lattice).classes, tuple(range(len(lattice.classes))))

    def test_unhelped(self):
        self.assertEqual(Power.unhelped(self.lattice, [("pick", 3)]).classes, (0, 1))
        self.assertEqual(Power.unhelped(self.lattice, (("pick", 2),)).classes, (0, 2))
        self.assertEqual(Power.unhelped(self.lattice, ()).classes, (0, 1, 2, 3))
        lattice = self.lattices[(4,)]
        for helpers in ([("pick", 2)], [("pick", 3)], [("pick", 4)], [("make", 4, ("hand", 0))]):
            self.assertEqual(Power.unhelped(lattice, helpers).group_numbers(), unhelped_groups(lattice, helpers))

    def test_tops(self):
        self.assertEqual(self.nothing.tops, ())
        self.assertEqual(self.of(0).tops, (0,))
        self.assertEqual(self.of(0, 1).tops, (1,))
        self.assertEqual(self.of(0, 1, 2).tops, (1, 2))
        self.assertEqual(self.of(0, 1, 2, 3).tops, (3,))
        lattice = self.lattices[(2, 2)]
        for lot in all_powers(lattice):
            self.assertEqual(Power(lattice, lot).tops,
                             tuple(low for low in lot if not any(low != high and beneath(lattice, low, high) for high in lot)))

    def test_operations(self):
        for sizes in ((0,), (2,), (3,), (2, 2)):
            lattice = self.lattices[sizes]
            places = range(len(lattice.classes))
            for first in all_powers(lattice):
                a = Power(lattice, first)
                self.assertEqual((~a).classes, tuple(place for place in places if not any(
                    low in first for low in places if beneath(lattice, low, place))))
                for second in all_powers(lattice):
                    b = Power(lattice, second)
                    self.assertEqual((a & b).classes, tuple(sorted(set(first) & set(second))))
                    self.assertEqual((a | b).classes, tuple(sorted(set(first) | set(second))))
                    self.assertEqual((a >> b).classes, tuple(
                        place for place in places
                        if all(low in second for low in first if beneath(lattice, low, place))))
                    self.assertIs(a.holds(b), set(second) <= set(first))
                    self.assertIs(a == b, first == second)
                    self.assertEqual((a.classes, b.classes), (first, second))
                    self.assertIsInstance(a >> b, Power)
                    self.assertIs((a & b).lattice, lattice)

    def test_not(self):
        self.assertEqual((~self.nothing).classes, (0, 1, 2, 3))
        self.assertEqual((~self.of(0)).classes, ())
        self.assertEqual((~Power.full(self.lattice)).classes, ())

    def test_operations_are_those_of_the_kinds(self):
        for sizes in ((3,), (2, 2)):
            lattice = self.lattices[sizes]
            last = len(sizes) - 1
            kinds = [("named", 0), ("named", 2), ("one", 0), ("hand", last), ("row", last), ("web", 0), ("round", 0),
                     ("lot", last, 2), ("tree", 0)]
            for first in kinds:
                a = Power.of_kind(lattice, first)
                self.assertTrue(~a == Power.of_kind(lattice, ("maps", first, ("named", 0))))
                for second in kinds:
                    b = Power.of_kind(lattice, second)
                    self.assertTrue(a & b == Power.of_kind(lattice, ("both", first, second)))
                    self.assertTrue(a | b == Power.of_kind(lattice, ("either", first, second)))
                    self.assertTrue(a >> b == Power.of_kind(lattice, ("maps", first, second)))

    def test_worlds_of_other_sizes(self):
        for sizes in ((2,), (2, 2), (4,), (0,)):
            other = Power(self.lattices[sizes], (0,))
            for combine in (lambda a, b: a & b, lambda a, b: a | b, lambda a, b: a >> b, lambda a, b: a.holds(b)):
                with self.assertRaises(BadPower) as caught:
                    combine(self.of(0, 1), other)
                self.assertEqual(caught.exception.given, (0,))
                with self.assertRaises(BadPower) as caught:
                    combine(other, self.of(0, 1))
                self.assertEqual(caught.exception.given, (0, 1))
            self.assertFalse(other == self.of(0))
        # The sizes count, not the lattices: (3) and (3, 0) differ, two lattices of (3) do not.
        again = Lattice(World((3,)))
        self.assertTrue(Power(again, (0, 1)) == self.of(0, 1))
        self.assertEqual((Power(again, (0, 2)) | self.of(0, 1)).classes, (0, 1, 2))
        flat = Lattice(World((3, 0)))
        self.assertFalse(Power(flat, (0, 1)) == self.of(0, 1))
        with self.assertRaises(BadPower):
            self.of(0) & Power(flat, (0,))

    def test_equality_with_other_values(self):
        for other in ((0, 1), [0, 1], None, 0, "power", True):
            self.assertFalse(self.of(0, 1) == other)
            self.assertTrue(self.of(0, 1) != other)
            with self.assertRaises(TypeError):
                self.of(0, 1) < other
        self.assertFalse(self.nothing == ())
        self.assertTrue(self.nothing < self.of(0) < self.of(0, 1))

    def test_membership(self):
        power = self.of(0, 2)
        self.assertEqual([place in power for place in range(4)], [True, False, True, False])
        self.assertNotIn(-1, power)
        self.assertNotIn(9, power)

    def test_truth(self):
        self.assertIs(bool(self.nothing), False)
        self.assertIs(bool(self.of(0)), True)
        self.assertIs(bool(Power.full(self.lattice)), True)
        self.assertEqual("yes" if self.of(0) else "no", "yes")
        self.assertEqual("yes" if self.nothing else "no", "no")

    def test_group_numbers(self):
        self.assertEqual(self.nothing.group_numbers(), ())
        self.assertEqual(self.of(0, 1).group_numbers(), (0, 1, 2, 3))
        self.assertEqual(self.of(0, 2).group_numbers(), (0, 4))
        self.assertEqual(Power.full(self.lattice).group_numbers(), (0, 1, 2, 3, 4, 5))
        lattice = self.lattices[(4,)]
        power = Power.beneath(lattice, (2, 1))
        self.assertEqual(power.group_numbers(), tuple(range(10)))

    def test_makes_with(self):
        one, hand, row = self.of(0, 1), self.of(0, 2), self.of(0)
        everything = Power.full(self.lattice)
        self.assertIs(makes_with(one, hand, everything), False)
        self.assertIs(makes_with(row, hand, everything), True)
        self.assertIs(makes_with(hand, row, everything), False)
        self.assertIs(makes_with(hand, one, self.of(0, 1)), True)
        self.assertIs(makes_with(one, hand, self.of(0, 1)), False)
        self.assertIs(makes_with(one, hand, self.of(0, 2)), True)
        self.assertIs(makes_with(one, one, everything), True)
        self.assertIs(makes_with(self.nothing, self.nothing, everything), True)
        self.assertIs(makes_with(one, self.nothing, everything), False)

    def test_makes_with_against_plans_and_rules(self):
        for sizes in ((3,), (2, 2)):
            lattice = self.lattices[sizes]
            last = len(sizes) - 1
            spaces = [Space(lattice.world, kind) for kind in
                      (("named", 0), ("named", 1), ("one", 0), ("one", last), ("hand", 0), ("row", last), ("round", 0),
                       ("lot", last, 2), ("both", ("one", 0), ("hand", last)))]
            for helpers in ([], [("pick", 2)], [("pick", 3)], [("pick", 4), ("make", 3, ("round", 0))]):
                unhelped = Power.unhelped(lattice, helpers)
                for first in spaces:
                    for second in spaces:
                        made = makes_with(Power.of_space(lattice, first), Power.of_space(lattice, second), unhelped)
                        self.assertIs(made, self.slow_makes(lattice, first, second, helpers))

    def slow_makes(self, lattice, source, goal, helpers):
        """Whether each group below a stabilizer leaves a structure of the goal alone or is helped."""
        for number in range(source.size):
            for held in lattice.held(lattice.number(source.stabilizer(number))):
                if not goal.fixed(lattice.groups[held]) and first_help(lattice, held, helpers) is None:
                    return False
        return True


if __name__ == "__main__":
    unittest.main()
