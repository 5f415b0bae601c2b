"""Tests of nonames.bundles (points 99 to 106)."""

import unittest
from itertools import combinations, islice, product
from nonames.askings import breaks, least_bad, restless_askings
from nonames.bundles import Bundle, full_bundle, least_bundle, least_covering
from nonames.errors import BadMove, BadPick, NoPlan
from nonames.families import Family
from nonames.helped import first_help, unhelped_groups
from nonames.lattices import Lattice
from nonames.plans import good_groups
from nonames.spaces import Space
from nonames.worlds import World

SETS = [[], [("pick", 2)], [("pick", 3)], (("pick", 2), ("pick", 3)), [("pick", 3), ("pick", 2), ("pick", 3)], [("pick", 6)],
        [("make", 3, ("round", 0)), ("pick", 6)], [("make", 3, ("row", 0))], [("make", 3, ("web", 0)), ("pick", 4)]]
KINDS = [("named", 0), ("named", 1), ("one", 0), ("round", 0), ("hand", 0), ("row", 0), ("lot", 0, 2)]


class BundleTest(unittest.TestCase):
    @classmethod
    def setUpClass(cls):
        cls.lattices = {sizes: Lattice(World(sizes)) for sizes in ((0,), (2,), (3,), (2, 2), (4,), (3, 2))}

    def setUp(self):
        self.lattice = self.lattices[(3,)]
        self.helpers = [("pick", 2), ("pick", 3)]
        self.askings = [(1, 0, (0,)), (4, 1, (0,))]
        self.bundle = Bundle(self.lattice, 5, self.askings, helpers=self.helpers)

    def bundles(self):
        """Bundles with few enough replies to go through them all."""
        for sizes, stand, askings in (((3,), 5, []), ((3,), 4, []), ((3,), 5, self.askings), ((3,), 5, self.askings[::-1]),
                                      ((3,), 5, [(4, 1, (0,))] * 2), ((3,), 5, [(5, 1, (1,)), (5, 0, (4,))]),
                                      ((3,), 4, [(4, 1, (0,)), (4, 0, (4, 4))]), ((3,), 5, [(5, 0, (5, 5)), (1, 0, (0,))]),
                                      ((2, 2), 4, [(1, 0, (0,)), (2, 0, (0,))]), ((2, 2), 4, [(4, 0, (3,)), (4, 1, (4, 2))]),
                                      ((2,), 1, [(1, 0, (0,))])):
            yield Bundle(self.lattices[sizes], stand, askings, helpers=self.helpers)

    def test_example(self):
        full = full_bundle(self.lattice, 5, (0,), helpers=self.helpers)
        least = least_bundle(self.lattice, 5, (0,), helpers=self.helpers)
        self.assertEqual([full.askings, least.askings, least.enough((0,)),
                          least_bundle(self.lattice, 5, (0,), helpers=[("pick", 6)]).askings],
                         [((1, 0, (0,)), (2, 0, (0,)), (3, 0, (0,)), (4, 1, (0,))), ((1, 0, (0,)), (4, 1, (0,))), True,
                          ((5, 0, (0,)),)])

    def test_attributes(self):
        self.askings.append((4, 1, (0,)))
        self.helpers.append(("pick", 1))
        self.assertIs(self.bundle.lattice, self.lattice)
        self.assertEqual((self.bundle.stand, self.bundle.askings, self.bundle.helpers),
                         (5, ((1, 0, (0,)), (4, 1, (0,))), (("pick", 2), ("pick", 3))))
        self.assertEqual(self.bundle.kept_groups(), (0,))

    def test_len_and_in(self):
        self.assertEqual((len(self.bundle), (4, 1, (0,)) in self.bundle, (5, 0, (4,)) in self.bundle), (2, True, False))
        twice = Bundle(self.lattice, 5, tuple(self.askings * 2), helpers=self.helpers)
        self.assertEqual((len(twice), twice.askings), (4, tuple(self.askings * 2)))
        empty = Bundle(self.lattice, 5, (), helpers=())
        self.assertEqual((len(empty), (4, 1, (0,)) in empty), (0, False))

    def test_first_wrong_asking(self):
        good = (4, 1, (0,))
        for wrong in ((4, 0, (0,)), (4, -1, (0,)), (4, 2, (0,)), (4, 1, ()), (1, 0, (2,)), (5, 1, (4,))):
            for askings in ([wrong], [good, wrong], (good, good, wrong, (4, 7, ())), [wrong, good, (4, 8, (0,))]):
                with self.assertRaises(BadMove) as caught:
                    Bundle(self.lattice, 5, askings, helpers=self.helpers)
                self.assertEqual(caught.exception.given, wrong)
        with self.assertRaises(BadMove) as caught:
            Bundle(self.lattice, 4, [good, (1, 0, (0,))], helpers=self.helpers)
        self.assertEqual(caught.exception.given, (1, 0, (0,)))

    def test_bundle_without_askings(self):
        for stand in range(6):
            empty = Bundle(self.lattice, stand, [], helpers=self.helpers)
            self.assertEqual((list(empty.replies()), empty.new_stand(()), empty.new_stand([])), ([()], stand, stand))
            self.assertEqual(empty.kept_groups(), self.lattice.held(stand))
            self.assertEqual([empty.reply_for(number) for number in self.lattice.held(stand)],
                             [()] * len(self.lattice.held(stand)))
            self.assertIs(empty.enough((0, 1)), stand < 2)
            self.assertIs(empty.enough(()), False)

    def test_sum(self):
        other = Bundle(self.lattice, 5, [(4, 1, (0,)), (5, 0, (4,))], helpers=tuple(self.helpers))
        both = self.bundle + other
        self.assertIsInstance(both, Bundle)
        self.assertEqual((both.askings, both.stand, both.helpers), (self.bundle.askings + other.askings, 5, other.helpers))
        self.assertEqual((len(self.bundle), len(other)), (2, 2))
        # Another lattice of a world of the same sizes is as good.
        same = Bundle(Lattice(World([3])), 5, [], helpers=self.helpers)
        self.assertEqual((same + self.bundle).askings, self.bundle.askings)
        self.assertEqual((self.bundle + same).new_stand(((0, 0, 0), (0, 0))), self.bundle.new_stand(((0, 0, 0), (0, 0))))

    def test_sum_of_what_does_not_fit(self):
        for other in (Bundle(self.lattice, 4, [], helpers=self.helpers), Bundle(self.lattice, 5, [], helpers=self.helpers[::-1]),
                      Bundle(self.lattice, 5, [], helpers=self.helpers[:1]), Bundle(self.lattice, 0, [], helpers=[]),
                      Bundle(self.lattices[(4,)], 5, [], helpers=self.helpers),
                      Bundle(self.lattices[(3, 2)], 5, [], helpers=self.helpers)):
            with self.assertRaises(BadMove) as caught:
                self.bundle + other
            self.assertEqual(caught.exception.given, other.stand)
            with self.assertRaises(BadMove) as caught:
                other + self.bundle
            self.assertEqual(caught.exception.given, 5)

    def test_replies_new_stands_and_kept_groups(self):
        for bundle in self.bundles():
            families = [Family(bundle.lattice, bundle.stand, base, bundle.helpers[k], parts)
                        for base, k, parts in bundle.askings]
            replies = list(bundle.replies())
            self.assertEqual(replies, list(product(*[list(family.pickings()) for family in families])))
            self.assertEqual(replies, sorted(replies))
            held = bundle.lattice.held(bundle.stand)
            stands = []
            for reply in replies:
                members = set(bundle.lattice.groups[bundle.stand])
                for family, picks in zip(families, reply):
                    members &= set(bundle.lattice.groups[family.new_stand(picks)])
                stands.append(bundle.new_stand(reply))
                self.assertEqual(bundle.lattice.groups[stands[-1]], tuple(sorted(members)))
            kept = tuple(number for number in held if any(bundle.lattice.holds(stand, number) for stand in stands))
            self.assertEqual(bundle.kept_groups(), kept)
            self.assertEqual(kept, tuple(number for number in held if not any(
                breaks(bundle.lattice, bundle.stand, asking, number, helpers=self.helpers) for asking in bundle.askings)))
            for good in ((), (0,), held, kept, kept[:-1], (0, 1)):
                self.assertIs(bundle.enough(good), all(number in good for number in kept))
            self.assertIs(bundle.enough((0,)), set(stands) == {0})

    def test_reply_for(self):
        for bundle in self.bundles():
            kept = bundle.kept_groups()
            for number in bundle.lattice.held(bundle.stand):
                reply = bundle.reply_for(number)
                if number in kept:
                    self.assertEqual(reply, tuple(Family(bundle.lattice, bundle.stand, base, bundle.helpers[k],
                                                         parts).picking_for(number) for base, k, parts in bundle.askings))
                    self.assertTrue(bundle.lattice.holds(bundle.new_stand(reply), number))
                else:
                    self.assertIsNone(reply)

    def test_replies_are_yielded_one_by_one(self):
        lattice = self.lattices[(4,)]
        bundle = Bundle(lattice, 29, [(0, 0, (0,) * 12)] * 3, helpers=[("pick", 12)])
        found = list(islice(bundle.replies(), 13))
        zero = (0,) * 24
        self.assertEqual((found[0], found[1]), ((zero,) * 3, (zero, zero, zero[1:] + (1,))))
        self.assertEqual(found[12], (zero, zero, zero[2:] + (1, 0)))

    def test_bad_picks(self):
        good = ((0, 0, 0), (0, 1))
        self.bundle.new_stand(good)
        for pickings in ((), good[:1], good + good[:1], good[::-1], ((0, 0, 2), (0, 1)), ((0, 0), (0, 1)), ((0, 0, 0), ()),
                         ((0, 0, 0), (0, 3)), ((0, 0, 0), (0, -1)), ((), ())):
            for given in (pickings, list(pickings)):
                with self.assertRaises(BadPick) as caught:
                    self.bundle.new_stand(given)
                self.assertEqual(caught.exception.given, pickings)
        with self.assertRaises(BadPick) as caught:
            Bundle(self.lattice, 5, [], helpers=[]).new_stand([(0,)])
        self.assertEqual(caught.exception.given, ((0,),))

    def goods(self, lattice):
        found = {good_groups(lattice, Space(lattice.world, kind)) for kind in KINDS}
        return sorted(found | {lattice.held(number) for number in range(min(len(lattice.groups), 7))})

    def test_full_bundle(self):
        for lattice in self.lattices.values():
            for helpers in SETS:
                unhelped = unhelped_groups(lattice, helpers)
                for good in self.goods(lattice):
                    for stand in range(0, len(lattice.groups), 1 + len(lattice.groups) // 6):
                        bad = least_bad(lattice, stand, good)
                        blocked = [number for number in bad if number in unhelped]
                        if blocked:
                            for function in (full_bundle, least_bundle):
                                with self.assertRaises(NoPlan) as caught:
                                    function(lattice, stand, good, helpers=helpers)
                                self.assertEqual(caught.exception.given, blocked[0])
                            continue
                        bundle = full_bundle(lattice, stand, good, helpers=helpers)
                        helps = [first_help(lattice, number, helpers) for number in bad]
                        self.assertEqual(bundle.askings, tuple(dict.fromkeys(helps)))
                        self.assertEqual((bundle.stand, bundle.helpers), (stand, tuple(helpers)))
                        self.assertTrue(bundle.enough(good))

    def slow_least(self, lattice, stand, good, helpers):
        askings = restless_askings(lattice, stand, helpers=helpers)
        bad = least_bad(lattice, stand, good)
        broken = {asking: {number for number in bad if breaks(lattice, stand, asking, number, helpers=helpers)}
                  for asking in askings}
        for many in range(len(askings) + 1):
            for chosen in combinations(askings, many):
                if set().union(*[broken[asking] for asking in chosen]) == set(bad):
                    return chosen
        return None

    def test_least_bundle(self):
        for sizes in ((2,), (3,), (2, 2)):
            lattice = self.lattices[sizes]
            for helpers in SETS:
                unhelped = unhelped_groups(lattice, helpers)
                for good in self.goods(lattice):
                    for stand in range(len(lattice.groups)):
                        if set(least_bad(lattice, stand, good)) & set(unhelped):
                            continue
                        bundle = least_bundle(lattice, stand, good, helpers=helpers)
                        self.assertEqual(bundle.askings, self.slow_least(lattice, stand, good, helpers))
                        self.assertTrue(bundle.enough(good))
                        self.assertEqual((bundle.stand, bundle.helpers), (stand, tuple(helpers)))

    def test_least_bundle_in_greater_worlds(self):
        for sizes, helpers in (((4,), [("pick", 2), ("pick", 3)]), ((3, 2), [("pick", 3), ("pick", 2)]),
                               ((4,), [("pick", 4), ("pick", 3)]), ((3, 2), [("pick", 6)])):
            lattice = self.lattices[sizes]
            for good in self.goods(lattice)[1::2]:
                for stand in (len(lattice.groups) - 1, len(lattice.groups) - 3):
                    if not set(least_bad(lattice, stand, good)) & set(unhelped_groups(lattice, helpers)):
                        self.assertEqual(least_bundle(lattice, stand, good, helpers=helpers).askings,
                                         self.slow_least(lattice, stand, good, helpers))

    def test_coverings(self):
        numbers = (3, 5, 6, 9)
        lots = [lot for many in range(3) for lot in combinations(numbers, many)]
        for row in combinations(lots[::-1] + lots[1:4], 5):
            if set().union(*row) == set(numbers):
                slow = [places for many in range(6) for places in combinations(range(5), many)
                        if set().union(*[row[at] for at in places]) == set(numbers)]
                self.assertEqual(least_covering(list(row), list(numbers)), slow[0])
        self.assertEqual((least_covering([], []), least_covering([(3,)], [])), ((), ()))

    def test_first_of_several_least_bundles(self):
        helpers = [("pick", 2), ("pick", 2), ("pick", 3), ("pick", 3)]
        self.assertEqual(least_bundle(self.lattice, 5, (0,), helpers=helpers).askings, ((1, 0, (0,)), (4, 2, (0,))))
        helpers = [("pick", 6), ("pick", 2), ("pick", 3)]
        self.assertEqual(least_bundle(self.lattice, 5, (0,), helpers=helpers).askings, ((5, 0, (0,)),))
        self.assertEqual(least_bundle(self.lattice, 5, (0,), helpers=helpers[:1] * 2).askings, ((5, 0, (0,)),))

    def test_good_that_renamings_do_not_keep(self):
        self.assertEqual(full_bundle(self.lattice, 5, (0, 2, 4), helpers=self.helpers).askings, ((1, 0, (0,)), (3, 0, (0,))))
        self.assertEqual(least_bundle(self.lattice, 5, (0, 2, 4), helpers=self.helpers).askings, ((1, 0, (0,)),))

    def test_nothing_is_good(self):
        for function in (full_bundle, least_bundle):
            with self.assertRaises(NoPlan) as caught:
                function(self.lattice, 5, (), helpers=self.helpers)
            self.assertEqual(caught.exception.given, 0)

    def test_stand_that_is_good(self):
        for function in (full_bundle, least_bundle):
            for helpers in ([], self.helpers):
                bundle = function(self.lattice, 4, (0, 4), helpers=helpers)
                self.assertEqual((bundle.askings, bundle.stand, bundle.enough((0, 4))), ((), 4, True))

    def test_nothing_is_modified(self):
        full_bundle(self.lattice, 5, (0,), helpers=self.helpers)
        least_bundle(self.lattice, 5, (0,), helpers=self.helpers)
        self.assertEqual(self.helpers, [("pick", 2), ("pick", 3)])


if __name__ == "__main__":
    unittest.main()
