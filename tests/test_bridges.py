"""Tests of nonames.bridges (point 40)."""

import unittest
from nonames.addresses import address_of
from nonames.bridges import bridge, same_form
from nonames.errors import NoBridge, TooMany
from nonames.listing import uncounted_structures
from nonames.moving import rename_structure
from nonames.worlds import World
from slow_forms import slow_address
from test_forms import HUNDRED, HUNDRED_ONE, ONE, ROW, TWO, WEB, named

SOME = ("either", ONE, named(2))
HAND = ("hand", 0)
# Kinds that are the same, written otherwise.
ALIKE = [
    (("both", ONE, HAND), ("both", HAND, ONE)),
    (("either", ONE, HAND), ("either", HAND, ONE)),
    (("both", ONE, ("both", HAND, TWO)), ("both", ("both", TWO, ONE), HAND)),
    (("either", ONE, ("either", HAND, TWO)), ("either", ("either", TWO, ONE), HAND)),
    (("both", ONE, ("either", HAND, TWO)), ("either", ("both", ONE, TWO), ("both", HAND, ONE))),
    (("both", named(2), ONE), ("either", ONE, ONE)),
    (("both", named(2), named(3)), named(6)),
    (("either", named(2), named(3)), ("maps", named(1), named(5))),
    (("both", ONE, named(1)), ONE), (("either", named(0), ONE), ONE), (("both", named(0), ONE), named(0)),
    (("lots", SOME, 0), named(1)), (("lots", SOME, 1), ("either", named(2), ONE)),
    (("lots", ("either", ONE, named(2)), 2), ("lots", ("either", named(2), ONE), 2)),
    (("lots", ("both", ONE, HAND), 2), ("lots", ("both", HAND, ONE), 2)),
    (("maps", named(2), ONE), ("both", ONE, ONE)), (("maps", named(0), ONE), named(1)), (("maps", named(1), ONE), ONE),
    (("maps", ("either", ONE, HAND), named(2)), ("both", ("maps", HAND, named(2)), ("maps", ONE, named(2)))),
    (("maps", SOME, HAND), ("both", ("maps", ONE, HAND), ("both", HAND, HAND))),
    (("maps", ("both", ONE, named(2)), HAND), ("maps", ("either", ONE, ONE), HAND)),
    (("maps", ("both", ONE, HAND), named(2)), ("maps", ("both", HAND, ONE), named(2))),
    (("maps", ONE, ("either", HAND, named(1))), ("maps", ONE, ("either", named(1), HAND))),
    (("maps", named(2), SOME), ("either", ("either", ("both", SOME, ONE), ("both", ONE, named(2))), named(4))),
    (("pairing", SOME, SOME), ("pairing", ("either", named(2), ONE), ("either", ONE, named(2)))),
    (("both", SOME, ("either", HAND, ONE)),
     ("either", ("both", SOME, HAND), ("either", ("both", ONE, ONE), ("both", named(2), ONE)))),
]
UNLIKE = [(ONE, TWO), (ONE, ("both", ONE, ONE)), (named(2), named(3)), (("lots", ONE, 2), TWO), (("row", 0), ("pairing", ONE, ONE)),
          (("maps", ONE, named(2)), ("maps", ONE, named(3))), (("either", ONE, HAND), ("both", ONE, HAND)),
          (("maps", ONE, ("both", HAND, HAND)), ("both", ("maps", ONE, HAND), ("maps", ONE, HAND)))]


class BridgesTest(unittest.TestCase):
    def test_same_form(self):
        for kind, other in ALIKE:
            self.assertIs(same_form(kind, other), True, kind)
            self.assertIs(same_form(other, kind), True, kind)
            self.assertIs(same_form(kind, kind), True)
        for kind, other in UNLIKE:
            self.assertIs(same_form(kind, other), False)

    def test_there_and_back(self):
        for sizes in ((0,), (2,), (3,), (2, 1)):
            world = World(sizes)
            for kind, other in ALIKE:
                structures = uncounted_structures(world, kind)[:60]
                goals = uncounted_structures(world, other)
                found = [bridge(world, kind, other, structure) for structure in structures]
                self.assertEqual(len(set(found)), len(found))
                self.assertLessEqual(set(found), set(goals))
                for structure, there in zip(structures, found):
                    self.assertEqual(address_of(world, kind, structure), address_of(world, other, there))
                    self.assertEqual(bridge(world, other, kind, there), structure)

    def test_a_few(self):
        world = World((3,))
        self.assertEqual(bridge(world, ("both", ONE, ROW), ("both", ROW, ONE), (2, (0, 2, 1))), ((0, 2, 1), 2))
        self.assertEqual(bridge(world, ("either", ONE, ROW), ("either", ROW, ONE), (0, 2)), (1, 2))
        self.assertEqual(bridge(world, ("maps", named(2), ONE), ("both", ONE, ONE), (2, 0)), (2, 0))
        self.assertEqual(bridge(world, ("both", named(2), ONE), ("either", ONE, ONE), (1, 2)), (1, 2))
        self.assertEqual(bridge(world, ("both", named(2), named(3)), named(6), (1, 2)), 5)

    def test_bridges_of_factors_in_order_move_with_the_things(self):
        world = World((3,))
        kind, other = ("both", ONE, ("either", HAND, TWO)), ("either", ("both", ONE, TWO), ("both", HAND, ONE))
        for structure in uncounted_structures(world, kind):
            for number in range(world.order):
                self.assertEqual(bridge(world, kind, other, rename_structure(world, kind, structure, number)),
                                 rename_structure(world, other, bridge(world, kind, other, structure), number))

    def test_more_than_a_hundred_structures(self):
        world = World((3,))
        kind = ("both", ("either", WEB, ROW), ("either", ONE, ("both", WEB, ONE)))
        other = ("both", ("either", ("both", ONE, WEB), ONE), ("either", ROW, WEB))
        structures = uncounted_structures(world, kind)
        self.assertGreater(len(structures), 300)
        found = [bridge(world, kind, other, structure) for structure in structures[::5]]
        for structure, there in zip(structures[::5], found):
            self.assertEqual(slow_address((3,), kind, structure), slow_address((3,), other, there))
            self.assertEqual(bridge(world, other, kind, there), structure)

    def test_no_bridge(self):
        world = World((3,))
        for kind, other in UNLIKE:
            structure = uncounted_structures(world, kind)[0]
            with self.assertRaises(NoBridge) as caught:
                bridge(world, kind, other, structure)
            self.assertEqual(caught.exception.given, (kind, other))

    def test_too_many(self):
        world = World((1,))
        first = ("maps", HUNDRED, ("either", ONE, named(1)))
        second = ("maps", HUNDRED_ONE, named(1))
        for kind, other, part in ((first, second, first), (second, first, second), (ONE, second, second), (first, ONE, first),
                                  (("lots", first, 2), second, first), (ROW, ("both", ONE, first), first)):
            for call in (lambda: same_form(kind, other), lambda: bridge(world, kind, other, 0)):
                with self.assertRaises(TooMany) as caught:
                    call()
                self.assertEqual(caught.exception.given, part)


if __name__ == "__main__":
    unittest.main()
