"""Tests of nonames.families (points 79 to 83)."""

import unittest
from itertools import islice, product
from nonames.errors import BadMove, BadPick
from nonames.families import Family, digits_of
from nonames.helpers import lots_under
from nonames.lattices import Lattice
from nonames.worlds import World
from slow_play import SlowFamily

HELPERS = [("pick", 1), ("pick", 2), ("pick", 3), ("pick", 4), ("make", 0, ("row", 0)), ("make", 1, ("one", 0)),
           ("make", 2, ("row", 0)), ("make", 3, ("round", 0)), ("make", 3, ("web", 0)), ("make", 4, ("hand", 0)),
           ("make", 2, ("named", 3)), ("make", 4, ("parts", 0, (2, 2)))]


def families_of(lattice, stands, helpers, most=3):
    """Families of these helpers at these stands: for each base some lots, also with the parts the other way round."""
    for stand in stands:
        for base in lattice.held(stand):
            for helper in helpers:
                for parts in lots_under(lattice, base, helper[1])[:most]:
                    yield (stand, base, helper, parts)
                    if parts != parts[::-1]:
                        yield (stand, base, helper, parts[::-1])


class FamilyTest(unittest.TestCase):
    @classmethod
    def setUpClass(cls):
        cls.lattices = {sizes: Lattice(World(sizes)) for sizes in ((1,), (2,), (3,), (2, 2), (4,), (3, 2))}

    def setUp(self):
        self.lattice = self.lattices[(3,)]
        self.family = Family(self.lattice, 5, 4, ("pick", 3), (0,))

    def each(self, most=3):
        """Pairs of a family and the slow one."""
        for sizes, stands in (((1,), [0]), ((2,), [0, 1]), ((3,), [0, 1, 4, 5]), ((2, 2), [2, 4]), ((4,), [9, 20, 26])):
            lattice = self.lattices[sizes]
            for stand, base, helper, parts in families_of(lattice, stands, HELPERS, most):
                yield (lattice, Family(lattice, stand, base, helper, parts),
                       SlowFamily(lattice, stand, base, helper, parts))

    def test_example(self):
        family = self.family
        self.assertEqual([family.places, family.fibre(1), family.carried(0, 1, 1), family.new_stand((0, 0)),
                          family.picking_for(2), family.kept(4)],
                         [(0, 1), ((0, 1), (0, 2), (0, 5)), (1, 2), 1, (0, 1), False])

    def test_attributes(self):
        family = Family(self.lattice, 5, 4, ("make", 3, ("round", 0)), [0])
        self.assertIs(family.lattice, self.lattice)
        self.assertEqual((family.stand, family.base, family.helper), (5, 4, ("make", 3, ("round", 0))))
        self.assertEqual((family.parts, family.places), ((0,), (0, 1)))
        self.assertEqual(family.answers, ((0, 1, 2), (0, 2, 1)))
        self.assertEqual(self.family.answers, (0, 1, 2))
        for value in (family.parts, family.places, family.answers, family.fibre(0)):
            self.assertIsInstance(value, tuple)

    def test_parts_of_the_caller(self):
        parts = [0]
        family = Family(self.lattice, 5, 4, ("pick", 3), parts)
        parts.append(4)
        self.assertEqual(family.parts, (0,))

    def bad(self, stand, base, helper, parts):
        for given in (tuple(parts), list(parts)):
            with self.assertRaises(BadMove) as caught:
                Family(self.lattice, stand, base, helper, given)
            self.assertEqual(caught.exception.given, (base, helper, tuple(parts)))
            self.assertIs(Family.fits(self.lattice, stand, base, helper, given), False)

    def test_bad_moves(self):
        three, two = ("pick", 3), ("pick", 2)
        # The stand does not hold the base.
        self.bad(4, 5, three, (1,))
        self.bad(1, 2, two, (0,))
        self.bad(0, 1, two, (0,))
        # The base does not hold a part.
        self.bad(5, 4, three, (1,))
        self.bad(5, 4, three, (4, 4, 5))
        self.bad(5, 1, two, (1, 2))
        self.bad(5, 0, ("pick", 1), (1,))
        # The lot has another number of things.
        self.bad(5, 4, three, ())
        self.bad(5, 4, three, (4, 4))
        self.bad(5, 4, three, (0, 4))
        self.bad(5, 4, ("make", 3, ("row", 0)), (0, 0))
        self.bad(5, 4, ("make", 0, ("row", 0)), (4,))

    def test_fits(self):
        for lattice in (self.lattice, self.lattices[(2, 2)]):
            numbers = range(len(lattice.groups))
            for stand, base in product(numbers, repeat=2):
                for parts in [()] + [(n,) for n in numbers] + [(n, m) for n in numbers for m in numbers]:
                    for helper in (("pick", 2), ("pick", 3), ("make", 0, ("row", 0)), ("make", 4, ("row", 0))):
                        groups = [set(lattice.groups[n]) for n in (stand, base) + parts]
                        fits = groups[1] <= groups[0] and all(group <= groups[1] for group in groups[2:])
                        fits = fits and sum(len(groups[1]) // len(group) for group in groups[2:]) == helper[1]
                        self.assertIs(Family.fits(lattice, stand, base, helper, list(parts)), fits)
                        if fits:
                            self.assertEqual(Family(lattice, stand, base, helper, parts).parts, parts)

    def test_equal_parts_and_no_parts(self):
        family = Family(self.lattice, 5, 1, ("pick", 4), (0, 0))
        self.assertEqual(family.fibre(0), ((0, 0), (0, 1), (1, 0), (1, 1)))
        self.assertEqual(family.places, (0, 2, 4))
        self.assertEqual(family.carried(0, 2, 1), (0, 3))
        empty = Family(self.lattice, 5, 5, ("make", 0, ("row", 0)), ())
        self.assertEqual((empty.places, empty.fibre(0), empty.answers), ((0,), (), ((),)))
        self.assertEqual((empty.carried(0, (), 3), empty.new_stand([()]), empty.kept(5)), ((0, ()), 5, True))
        rests = Family(self.lattice, 5, 5, ("pick", 2), (5, 5))
        self.assertEqual((rests.fibre(0), rests.new_stand((1,)), rests.rests(0, 5)), (((0, 0), (1, 0)), 5, [0, 1]))

    def test_places_fibres_and_carried(self):
        for lattice, family, slow in self.each():
            self.assertEqual(family.places, tuple(place[0] for place in slow.places))
            self.assertEqual(family.answers, tuple(slow.answers))
            for k in range(len(family.places)):
                self.assertEqual(family.fibre(k), tuple(slow.fibres[k]))
                self.assertEqual(len(family.fibre(k)), family.helper[1])
                for g in slow.members:
                    for answer in family.answers[:3] + family.answers[-1:]:
                        self.assertEqual(family.carried(k, answer, g), slow.carried(k, answer, g))

    def test_new_stands_of_all_pickings(self):
        for lattice, family, slow in self.each(2):
            pickings = slow.pickings() if len(family.answers) ** len(family.places) <= 200 else []
            for picks in pickings[:40] + pickings[-5:]:
                members = slow.left_alone(picks)
                self.assertEqual(lattice.groups[family.new_stand(picks)], members)
                self.assertEqual(family.new_stand(list(picks)), family.new_stand(picks))
            if pickings:
                self.assertEqual(list(family.pickings()), pickings)

    def test_rests_kept_and_picking_for(self):
        for lattice, family, slow in self.each(2):
            for number in lattice.held(family.stand):
                group = lattice.groups[number]
                for k in range(len(family.places)):
                    resting = family.rests(k, number)
                    self.assertIsInstance(resting, list)
                    self.assertEqual(resting, slow.rests(k, group))
                self.assertIs(family.kept(number), slow.kept(group))
                picks = family.picking_for(number)
                self.assertEqual(picks, slow.picking_for(group))
                if picks is not None:
                    self.assertIn(picks, family)
                    self.assertTrue(lattice.holds(family.new_stand(picks), number))

    def test_kept_groups_are_those_of_some_picking(self):
        for sizes, stand, base, helper, parts in (((3,), 5, 4, ("pick", 3), (0,)), ((3,), 5, 1, ("pick", 2), (0,)),
                                                  ((3,), 5, 5, ("pick", 3), (1,)), ((2, 2), 4, 2, ("pick", 2), (0,)),
                                                  ((3,), 5, 1, ("make", 2, ("row", 0)), (0,))):
            lattice = self.lattices[sizes]
            family = Family(lattice, stand, base, helper, parts)
            stands = [family.new_stand(picks) for picks in family.pickings()]
            for number in lattice.held(stand):
                self.assertEqual(family.kept(number), any(lattice.holds(after, number) for after in stands))

    def test_pickings_are_yielded_one_by_one(self):
        family = Family(self.lattice, 5, 0, ("pick", 12), (0,) * 12)
        self.assertEqual(list(islice(family.pickings(), 14))[11:],
                         [(0, 0, 0, 0, 0, 11), (0, 0, 0, 0, 1, 0), (0, 0, 0, 0, 1, 1)])
        lattice = self.lattices[(4,)]
        family = Family(lattice, 29, 0, ("pick", 12), (0,) * 12)
        self.assertEqual(next(iter(family.pickings())), (0,) * 24)
        one = Family(self.lattice, 5, 0, ("pick", 1), (0,))
        self.assertEqual(list(one.pickings()), [(0,) * 6])

    def test_contains(self):
        self.assertIs((0, 2) in self.family, True)
        for picks in ((), (0,), (0, 0, 0), (0, 3), (-1, 0), ((), 0), (0, (0,)), ((0, 1),)):
            self.assertIs(picks in self.family, False)
        family = Family(self.lattice, 5, 4, ("make", 3, ("round", 0)), (0,))
        self.assertIs(((0, 1, 2), (0, 2, 1)) in family, True)
        for picks in (((0, 1, 2), (1, 0, 2)), ((0, 1, 2),), (0, 1), ((0, 1, 2), ())):
            self.assertIs(picks in family, False)

    def test_bad_picks(self):
        for picks in ((), (0,), (0, 0, 0), (0, 3), (-1, 0), ((), 0), (0, (0, 1))):
            for given in (picks, list(picks)):
                with self.assertRaises(BadPick) as caught:
                    self.family.new_stand(given)
                self.assertEqual(caught.exception.given, picks)
        picks = [1, 2]
        self.family.new_stand(picks)
        self.assertEqual(picks, [1, 2])

    def test_rests_is_a_new_list(self):
        self.family.rests(0, 0).clear()
        self.assertEqual(self.family.rests(0, 0), [0, 1, 2])

    def test_digits(self):
        self.assertEqual(digits_of(11, 2, 6), [1, 1, 0, 1, 0, 0])
        self.assertEqual((digits_of(10 ** 30 + 7, 10, 2), digits_of(5, 1, 3), digits_of(9, 3, 0)), ([7, 0], [0, 0, 0], []))


if __name__ == "__main__":
    unittest.main()
