"""Tests of nonames.addresses (points 35 to 39)."""

import unittest
from nonames.addresses import address_of, addresses_in, structure_at
from nonames.errors import TooMany
from nonames.forms import Form
from nonames.listing import uncounted_structures
from nonames.worlds import World
from slow import built_kinds, plain_kinds
from slow_forms import form_kinds, slow_address, slow_addresses
from test_forms import HUNDRED, HUNDRED_ONE, ONE, ROW, WEB, named

WORLDS = [(0,), (1,), (2,), (3,), (0, 2), (2, 1)]


class AddressesTest(unittest.TestCase):
    def each_kind(self, most):
        """All kinds in all worlds, with their structures, if there are not more than `most`."""
        for sizes in WORLDS:
            world = World(sizes)
            for kind in plain_kinds(len(sizes)) + built_kinds(len(sizes)) + form_kinds():
                if Form.of_kind(kind)(world) <= most:
                    yield world, kind, uncounted_structures(world, kind)

    def test_example(self):
        world = World((3,))
        kind = ("both", ("either", ("one", 0), ("named", 2)), ("one", 0))
        self.assertEqual([address_of(world, kind, ((1, 1), 2)), structure_at(world, kind, (1, 0, (0, 2)))],
                         [(0, 1, (2,)), ((0, 0), 2)])

    def test_all_addresses_there_and_back(self):
        many = 0
        for world, kind, structures in self.each_kind(60):
            addresses = [address_of(world, kind, structure) for structure in structures]
            listed = list(addresses_in(world, Form.of_kind(kind)))
            self.assertEqual(listed, sorted(addresses), kind)
            self.assertTrue(all(first < second for first, second in zip(listed, listed[1:])))
            self.assertEqual(Form.of_kind(kind)(world), len(listed))
            self.assertEqual([structure_at(world, kind, address) for address in addresses], structures)
            many += len(set(listed)) > 1
        self.assertGreater(many, 200)

    def test_addresses_by_the_second_reading(self):
        for world, kind, structures in self.each_kind(30):
            for structure in structures:
                self.assertEqual(address_of(world, kind, structure), slow_address(world.sizes, kind, structure), kind)

    def test_lists_by_the_second_reading(self):
        for world, kind, _ in self.each_kind(100):
            form = Form.of_kind(kind)
            self.assertEqual(list(addresses_in(world, form)), slow_addresses(world.sizes, form.terms))

    def test_kinds_with_more_than_a_hundred_structures(self):
        world = World((3,))
        for kind, chosen in ((("both", ("either", WEB, ONE), ("either", ONE, ("both", WEB, named(2)))), 7),
                             (("maps", ("either", named(2), ONE), ("either", ONE, named(2))), 97),
                             (("lots", ("either", WEB, ONE), 3), 5), (("pairing", ROW, ROW), 41),
                             (("either", ("both", WEB, named(9)), ("both", named(4), WEB)), 3)):
            structures = uncounted_structures(world, kind)
            self.assertGreater(len(structures), 100)
            for structure in structures[::chosen]:
                address = address_of(world, kind, structure)
                self.assertEqual(address, slow_address((3,), kind, structure))
                self.assertEqual(structure_at(world, kind, address), structure)

    def test_plain_and_named(self):
        world = World((3,))
        self.assertEqual(address_of(world, named(5), 3), (0, 3, ()))
        self.assertEqual(address_of(world, ONE, 2), (0, 0, (2,)))
        self.assertEqual(address_of(world, WEB, ((0, 1),)), (0, 0, (((0, 1),),)))
        self.assertEqual(structure_at(world, named(5), (0, 3, ())), 3)
        self.assertEqual(structure_at(world, WEB, (0, 0, ((),))), ())

    def test_sums(self):
        world = World((3,))
        kind = ("either", ("either", ONE, named(2)), ("either", named(3), ONE))
        for structure, address in (((0, (0, 1)), (1, 0, (1,))), ((0, (1, 1)), (0, 1, ())), ((1, (0, 0)), (0, 2, ())),
                                   ((1, (0, 2)), (0, 4, ())), ((1, (1, 2)), (1, 1, (2,)))):
            self.assertEqual(address_of(world, kind, structure), address)
            self.assertEqual(structure_at(world, kind, address), structure)

    def test_products_with_equal_atoms(self):
        world = World((3,))
        self.assertEqual(address_of(world, ("both", ONE, ONE), (2, 1)), (0, 0, (2, 1)))
        # The parts of the left one come first only where the atoms are equal.
        kind = ("both", ("both", ROW, ONE), ("both", ONE, ("hand", 0)))
        self.assertEqual(address_of(world, kind, (((0, 2, 1), 2), (1, 1))), (0, 0, (1, 2, 1, (0, 2, 1))))
        kind = ("both", ("both", named(2), ONE), ("both", named(3), ONE))
        self.assertEqual(address_of(world, kind, ((1, 0), (2, 1))), (0, 5, (0, 1)))
        self.assertEqual(structure_at(world, kind, (0, 4, (2, 2))), ((1, 2), (1, 2)))

    def test_lots(self):
        world = World((2,))
        some = ("either", ONE, named(2))
        self.assertEqual(address_of(world, ("lots", some, 0), ()), (0, 0, ()))
        self.assertEqual(address_of(world, ("lots", some, 1), ((1, 1),)), (0, 1, ()))
        self.assertEqual(address_of(world, ("lots", some, 2), ((0, 1), (1, 0))), (0, 0, (((0, 0, ()), (1, 0, (1,))),)))
        self.assertEqual(structure_at(world, ("lots", some, 0), (0, 0, ())), ())
        self.assertEqual(structure_at(world, ("lots", some, 1), (1, 0, (0,))), ((0, 0),))

    def test_maps_with_several_factors(self):
        world = World((2,))
        kind = ("maps", ("either", ONE, named(2)), ("either", ONE, named(1)))
        # The sources in ascending order are things 0 and 1, then names 0 and 1; the names' factors come first.
        value = ((0, 1), (1, 0), (0, 0), (1, 0))
        address = address_of(world, kind, value)
        form = Form.of_kind(kind)
        inner = (("maps", ((1, (ONE,)),), ((1, ()), (1, (ONE,)))),)
        self.assertEqual([atoms for _, atoms in form], [inner, inner + (ONE,), inner + (ONE, ONE)])
        self.assertEqual(address, (1, 1, (((1, 0, (1,)), (0, 0, ())), 0)))
        self.assertEqual(structure_at(world, kind, address), value)

    def test_a_hundred_factors(self):
        world = World((3,))
        kind = ("maps", HUNDRED, ("lot", 0, 3))
        value = ((0, 1, 2),) * 100
        self.assertEqual(address_of(world, kind, value), (0, 0, value))
        self.assertEqual(structure_at(world, kind, (0, 0, value)), value)
        kind = ("maps", HUNDRED, named(2))
        value = (1,) + (0,) * 98 + (1,)
        self.assertEqual(address_of(world, kind, value), (0, 2 ** 99 + 1, ()))
        self.assertEqual(structure_at(world, kind, (0, 2 ** 99 + 1, ())), value)

    def test_atoms_without_values(self):
        world = World((4, 0))
        large = ("both", ("both", ROW, ROW), ("both", ROW, ("both", ROW, ROW)))
        form = Form.of_kind(large) * Form.of_kind(("tree", 1))
        self.assertEqual(list(addresses_in(world, form)), [])
        self.assertEqual(list(addresses_in(world, form + Form.named(2))), [(0, 0, ()), (0, 1, ())])
        form = Form.of_kind(("lots", WEB, 9)) * Form.of_kind(("one", 1)) * Form.named(10 ** 15)
        self.assertEqual(list(addresses_in(world, form)), [])
        self.assertEqual(list(addresses_in(world, Form(()))), [])

    def test_too_many(self):
        world = World((1,))
        wide = ("maps", HUNDRED, ("either", ONE, named(1)))
        long = ("maps", HUNDRED_ONE, named(1))
        for kind, part, structure in ((long, long, (0,) * 101), (("both", long, wide), long, 0), (("either", wide, long), wide, 0),
                                      (("lots", ("lots", wide, 1), 0), wide, ())):
            for function in (address_of, structure_at):
                with self.assertRaises(TooMany) as caught:
                    function(world, kind, structure)
                self.assertEqual(caught.exception.given, part)


if __name__ == "__main__":
    unittest.main()
