"""Tests of nonames.choosing, the inner module that lists lots and orders."""

import unittest
from itertools import combinations, permutations
from nonames.choosing import lots_of, orders_of

LISTS = [[], [7], [2, 5], [0, 1, 2], (3, 4, 5, 6), [(), (0,), (0, 1), (1,), (2,)], [0, 1, 2, 3, 4, 5]]


class ChoosingTest(unittest.TestCase):
    def test_lots(self):
        for members in LISTS:
            for many in range(10):
                self.assertEqual(lots_of(members, many), list(combinations(members, many)))
        self.assertEqual(lots_of(list(range(100)), 1), [(number,) for number in range(100)])
        self.assertEqual(lots_of(list(range(12)), 9), list(combinations(range(12), 9)))

    def test_orders(self):
        for members in LISTS:
            self.assertEqual(orders_of(members), list(permutations(members)))

    def test_equal_members_are_members_of_their_own(self):
        self.assertEqual(orders_of([1, 1]), [(1, 1), (1, 1)])
        self.assertEqual(lots_of([1, 1, 2], 2), [(1, 1), (1, 2), (1, 2)])

    def test_lists_are_new_and_the_given_ones_unchanged(self):
        members = [1, 2, 3]
        lots_of(members, 2).clear()
        orders_of(members).clear()
        self.assertEqual(members, [1, 2, 3])
        self.assertEqual((len(lots_of(members, 2)), len(orders_of(members))), (3, 6))


if __name__ == "__main__":
    unittest.main()
