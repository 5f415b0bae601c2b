"""Tests of nonames.helpers (points 67 to 71)."""

import unittest
from itertools import combinations_with_replacement
from nonames.errors import BadHelper, BadKind, TooMany
from nonames.helpers import check_helper, is_restless, lots_under, restless_lot
from nonames.lattices import Lattice
from nonames.worlds import World
from slow import slow_list, slow_rename

TEN = ("either", ("named", 9), ("named", 1))
MORE = ("either", ("both", TEN, TEN), ("named", 1))
WORLDS = [(0,), (1,), (2,), (3,), (4,), (2, 1), (2, 2), (3, 2)]


def slow_cosets(lattice, part, number):
    world, members = lattice.world, lattice.groups[number]
    return sorted({tuple(sorted(world.then(inner, member) for inner in lattice.groups[part])) for member in members})


def slow_rows(lattice, number, parts):
    """For each member of the group, the thing to which it moves each thing of the lot."""
    things = [(at, coset) for at, part in enumerate(parts) for coset in slow_cosets(lattice, part, number)]
    then = lattice.world.then
    return [[things.index((at, tuple(sorted(then(inner, member) for inner in coset)))) for at, coset in things]
            for member in lattice.groups[number]]


def slow_restless(lattice, number, helper, parts):
    rows = slow_rows(lattice, number, parts)
    many = helper[1]
    if len(rows[0]) != many:
        return False
    if helper[0] == "pick":
        answers, kind = range(many), ("one", 0)
    else:
        answers, kind = slow_list((many,), helper[2]), helper[2]
    return not any(all(slow_rename((many,), kind, answer, row) == answer for row in rows) for answer in answers)


def slow_lots(lattice, number, many):
    members = lattice.groups[number]
    firsts = [part for part in range(len(lattice.groups)) if lattice.holds(number, part)
              and part == min(lattice.carried(part, member) for member in members)]
    found = [lot for size in range(many + 1) for lot in combinations_with_replacement(firsts, size)
             if sum(len(members) // len(lattice.groups[part]) for part in lot) == many]
    return sorted(found)


class HelpersTest(unittest.TestCase):
    @classmethod
    def setUpClass(cls):
        cls.lattices = {sizes: Lattice(World(sizes)) for sizes in WORLDS}

    def bad(self, helper):
        with self.assertRaises(BadHelper) as caught:
            check_helper(helper)
        self.assertEqual(caught.exception.given, helper)

    def test_examples(self):
        lattice = self.lattices[(3,)]
        self.assertEqual([lots_under(lattice, 5, 3), restless_lot(lattice, 5, ("make", 2, ("row", 0))),
                          restless_lot(lattice, 4, ("pick", 2))],
                         [[(1,), (4, 5), (5, 5, 5)], (4,), None])

    def test_pick(self):
        for many in range(1, 13):
            self.assertIsNone(check_helper(("pick", many)))
        for many in (0, 13, -1, 100, "1", (1,), ()):
            self.bad(("pick", many))

    def test_make(self):
        for many in range(5):
            self.assertIsNone(check_helper(("make", many, ("row", 0))))
        for many in (-1, 5, "1", (1,)):
            self.bad(("make", many, ("row", 0)))

    def test_values_with_neither_form(self):
        for value in ((), ("pick",), ("pick", 1, 1), ("pick", 1, ("one", 0)), ("make",), ("make", 1),
                      ("make", 1, ("named", 1), 1), ("take", 1), ("PICK", 1), (1, "pick"), (0, 1), ("", 2), 0, 3, "pick",
                      "", ("one", 0), (("pick", 1),), (("make",), 1, ("one", 0)), ("pick", ("pick", 1))):
            self.bad(value)

    def test_neither_form_comes_before_the_kind(self):
        self.bad(("make", 5, ("one", 1)))
        self.bad(("make", -1, MORE))
        self.bad(("make", 5, 5))
        self.bad(("take", 2, ("one", 7)))

    def test_bad_kind(self):
        for kind, part in ((("one", 1), ("one", 1)), (3, 3), ("one", "one"), ((), ()), (("lots", ("web", 2), 1), ("web", 2)),
                           (("both", MORE, ("one", 1)), ("one", 1)), (("both", ("one", 0), ("row", 1)), ("row", 1))):
            with self.assertRaises(BadKind) as caught:
                check_helper(("make", 2, kind))
            self.assertEqual(caught.exception.given, part)

    def test_too_many(self):
        for many in (0, 2, 4):
            for kind, part in ((MORE, MORE), (("both", MORE, ("named", 0)), MORE), (("lots", MORE, 0), MORE)):
                with self.assertRaises(TooMany) as caught:
                    check_helper(("make", many, kind))
                self.assertEqual(caught.exception.given, part)
        kind = ("both", ("web", 0), ("hand", 0))
        self.assertIsNone(check_helper(("make", 3, kind)))
        with self.assertRaises(TooMany) as caught:
            check_helper(("make", 4, kind))
        self.assertEqual(caught.exception.given, kind)

    def test_no_answer(self):
        for helper in (("make", 0, ("one", 0)), ("make", 2, ("named", 0)), ("make", 3, ("lot", 0, 4)),
                       ("make", 0, ("tree", 0)), ("make", 3, ("parts", 0, (2, 2))), ("make", 2, ("maps", ("one", 0), ("named", 0)))):
            self.bad(helper)
        self.assertIsNone(check_helper(("make", 0, ("row", 0))))
        self.assertIsNone(check_helper(("make", 0, ("maps", ("one", 0), ("named", 0)))))
        self.assertIsNone(check_helper(("make", 1, ("one", 0))))

    def test_lots_of_nothing(self):
        for lattice in self.lattices.values():
            for number in range(len(lattice.groups)):
                self.assertEqual(lots_under(lattice, number, 0), [()])

    def test_lots_of_twelve(self):
        lattice = self.lattices[(4,)]
        top = len(lattice.groups) - 1
        lots = lots_under(lattice, top, 12)
        self.assertEqual(lots, sorted(lots))
        self.assertEqual(len(lots), len(set(lots)))
        for lot in lots:
            self.assertEqual(sum(lattice.ratio(top, part) for part in lot), 12)
        self.assertIn((top,) * 12, lots)
        # Two classes of groups have two members, so two lots have one part.
        self.assertEqual([lot for lot in lots if len(lot) == 1], [(1,), (5,)])
        self.assertEqual(lots_under(self.lattices[(2,)], 0, 12), [(0,) * 12])
        self.assertEqual(lots_under(self.lattices[(2,)], 1, 12),
                         [(0,) * half + (1,) * (12 - 2 * half) for half in range(6, -1, -1)])

    def test_lots_under(self):
        for lattice in self.lattices.values():
            for number in range(len(lattice.groups)):
                for many in range(6):
                    self.assertEqual(lots_under(lattice, number, many), slow_lots(lattice, number, many))

    def test_alike_under_the_group_itself(self):
        # Two groups may be alike up to names without being alike under a group that holds both.
        lattice = self.lattices[(4,)]
        found = [(number, first, second) for number in range(len(lattice.groups)) for first in lattice.held(number)
                 for second in lattice.held(number) if first < second
                 and lattice.class_of(first) == lattice.class_of(second)
                 and all(lattice.carried(first, member) != second for member in lattice.groups[number])]
        self.assertTrue(found)
        number, first, second = found[0]
        many = lattice.ratio(number, first)
        lots = lots_under(lattice, number, many)
        self.assertIn((first,), lots)
        self.assertIn((second,), lots)

    def test_is_restless(self):
        lattice = self.lattices[(3,)]
        self.assertIs(is_restless(lattice, 5, ("pick", 3), (1,)), True)
        self.assertIs(is_restless(lattice, 5, ("pick", 3), [4, 5]), False)
        self.assertIs(is_restless(lattice, 5, ("pick", 2), (4,)), True)
        self.assertIs(is_restless(lattice, 5, ("pick", 3), (4,)), False)
        self.assertIs(is_restless(lattice, 5, ("make", 3, ("round", 0)), (1,)), True)
        self.assertIs(is_restless(lattice, 4, ("make", 3, ("round", 0)), (0,)), False)
        self.assertIs(is_restless(lattice, 4, ("make", 3, ("row", 0)), (0,)), True)
        self.assertIs(is_restless(lattice, 5, ("make", 4, ("hand", 0)), (1, 5)), True)
        self.assertIs(is_restless(lattice, 4, ("make", 4, ("hand", 0)), (0, 4)), False)
        self.assertIs(is_restless(lattice, 5, ("make", 3, ("named", 1)), (1,)), False)

    def test_lots_of_nothing_are_never_restless(self):
        for number in range(6):
            self.assertIs(is_restless(self.lattices[(3,)], number, ("make", 0, ("row", 0)), ()), False)
            self.assertIsNone(restless_lot(self.lattices[(3,)], number, ("make", 0, ("hand", 0))))

    def test_parts_in_any_order_and_twice(self):
        helpers = [("pick", many) for many in (1, 2, 3, 4, 5, 6)] + [
            ("make", many, kind) for many in (1, 2, 3, 4)
            for kind in (("row", 0), ("round", 0), ("hand", 0), ("lot", 0, 2), ("web", 0), ("named", 1))
            if slow_list((many,), kind)]
        for sizes in ((3,), (2, 2)):
            lattice = self.lattices[sizes]
            for number in range(len(lattice.groups)):
                held = lattice.held(number)
                lots = [()] + [(part,) for part in held] + [(first, second) for first in held for second in held]
                lots += [(part, number, number) for part in held] + [(number, part, number) for part in held]
                for helper in helpers:
                    for parts in lots:
                        expected = slow_restless(lattice, number, helper, parts)
                        self.assertIs(is_restless(lattice, number, helper, parts), expected, (number, helper, parts))
                        self.assertIs(is_restless(lattice, number, helper, list(parts)), expected)

    def test_restless_lot(self):
        helpers = [("pick", many) for many in (1, 2, 3, 4)] + [
            ("make", many, kind) for many in (0, 1, 2, 3, 4) for kind in (("row", 0), ("hand", 0), ("web", 0), ("round", 0))]
        helpers += [("make", 4, ("tree", 0)), ("make", 4, ("parts", 0, (2, 2))), ("make", 3, ("lots", ("one", 0), 2))]
        for sizes in ((2,), (3,), (2, 2), (4,)):
            lattice = self.lattices[sizes]
            for number in range(0, len(lattice.groups), 1 if sizes != (4,) else 3):
                for helper in helpers:
                    lots = [lot for lot in slow_lots(lattice, number, helper[1])
                            if slow_restless(lattice, number, helper, lot)]
                    self.assertEqual(restless_lot(lattice, number, helper), lots[0] if lots else None)

    def test_lot_of_parts_of_another_number_of_things(self):
        lattice = self.lattices[(3,)]
        for helper in (("pick", 4), ("make", 4, ("row", 0)), ("make", 2, ("row", 0)), ("pick", 12)):
            self.assertIs(is_restless(lattice, 5, helper, (1,)), False)
        self.assertIs(is_restless(lattice, 5, ("pick", 3), ()), False)

    def test_returned_list_is_new(self):
        lattice = self.lattices[(3,)]
        lots = lots_under(lattice, 5, 3)
        lots.clear()
        self.assertEqual(lots_under(lattice, 5, 3), [(1,), (4, 5), (5, 5, 5)])

    def test_parts_are_not_modified(self):
        parts = [5, 4]
        is_restless(self.lattices[(3,)], 5, ("pick", 3), parts)
        self.assertEqual(parts, [5, 4])


if __name__ == "__main__":
    unittest.main()
