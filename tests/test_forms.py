"""Tests of nonames.forms (points 31 to 34 and 36)."""

import unittest
from itertools import product
from nonames.counting import count_structures
from nonames.errors import TooMany
from nonames.forms import Form
from nonames.kinds import check_kind
from nonames.listing import uncounted_structures
from nonames.worlds import World
from slow import built_kinds, plain_kinds
from slow_forms import form_kinds, slow_addresses, slow_product, slow_sum, slow_terms

ONE, TWO, HAND, ROW, WEB = ("one", 0), ("lot", 0, 2), ("hand", 0), ("row", 0), ("web", 0)
WORLDS = [(0,), (1,), (2,), (3,), (0, 2), (2, 1)]


def named(count):
    return ("named", count)


def sum_of(kinds):
    """A kind `either` of all these kinds, with as few levels as possible."""
    if len(kinds) == 1:
        return kinds[0]
    middle = len(kinds) // 2
    return ("either", sum_of(kinds[:middle]), sum_of(kinds[middle:]))


def plain(sort, many):
    """So many different plain kinds of a sort."""
    found = [("lot", sort, k) for k in range(10)] + [(tag, sort) for tag in ("one", "row", "round", "hand", "web", "tree")]
    return found[:many]


TEN = ("either", named(9), named(1))
HUNDRED = ("both", TEN, TEN)
NINETY_NINE = ("both", named(9), ("either", named(9), named(2)))
HUNDRED_ONE = ("either", HUNDRED, named(1))


class FormsTest(unittest.TestCase):
    def terms(self, kind, *terms):
        form = Form.of_kind(kind)
        self.assertEqual(form.terms, tuple(terms), kind)
        self.assertIsInstance(form, Form)

    def too_many(self, kind, part):
        check_kind(kind, 2)
        with self.assertRaises(TooMany) as caught:
            Form.of_kind(kind)
        self.assertEqual(caught.exception.given, part)

    def test_example(self):
        form = Form.of_kind(("both", ("either", ("one", 0), ("named", 2)), ("one", 0)))
        self.assertEqual([form.terms, form(World((3,))), form[(("one", 0),)]],
                         [((2, (('one', 0),)), (1, (('one', 0), ('one', 0)))), 15, 2])

    def test_terms_and_iteration(self):
        terms = ((3, ()), (2, (ONE,)))
        form = Form(terms)
        self.assertEqual((form.terms, list(form), [term for term in form]), (terms, list(terms), list(terms)))
        self.assertEqual(Form(()).terms, ())
        given = list(terms)
        form = Form(given)
        given.append((1, (ONE, ONE)))
        self.assertEqual(form.terms, terms)

    def test_item(self):
        form = Form(((3, ()), (2, (ONE,)), (5, (ONE, ROW))))
        self.assertEqual([form[()], form[(ONE,)], form[(ONE, ROW)], form[(ROW,)], form[(ONE, ONE)]], [3, 2, 5, 0, 0])
        self.assertEqual(Form(())[()], 0)

    def test_named(self):
        self.assertEqual(Form.named(0).terms, ())
        self.assertEqual(Form.named(1).terms, ((1, ()),))
        self.assertEqual(Form.named(12).terms, ((12, ()),))

    def test_sum_and_product(self):
        some = Form(((2, ()), (1, (ONE,))))
        other = Form(((3, (ONE,)), (1, (ONE, ONE)), (4, (ROW,))))
        self.assertEqual((some + other).terms, ((2, ()), (4, (ONE,)), (1, (ONE, ONE)), (4, (ROW,))))
        self.assertEqual((some * other).terms,
                         ((6, (ONE,)), (5, (ONE, ONE)), (1, (ONE, ONE, ONE)), (4, (ONE, ROW)), (8, (ROW,))))
        self.assertEqual((some.terms, other.terms), (((2, ()), (1, (ONE,))), ((3, (ONE,)), (1, (ONE, ONE)), (4, (ROW,)))))
        self.assertEqual((some + Form.named(0)).terms, some.terms)
        self.assertEqual((some * Form.named(0)).terms, ())
        self.assertEqual((some * Form.named(1)).terms, some.terms)
        self.assertEqual((some * Form.named(3)).terms, ((6, ()), (3, (ONE,))))

    def test_sums_and_products_of_many_forms(self):
        forms = [Form.of_kind(kind) for kind in form_kinds()[:30]]
        for left, right in product(forms, forms):
            self.assertEqual((left + right).terms, slow_sum(left.terms, right.terms))
            self.assertEqual((left * right).terms, slow_product(left.terms, right.terms))
            self.assertEqual(left + right == right + left, True)
            self.assertEqual(left * right == right * left, True)

    def test_powers(self):
        some = Form(((2, ()), (1, (ONE,))))
        self.assertEqual((some ** 0).terms, ((1, ()),))
        self.assertEqual((Form.named(0) ** 0).terms, ((1, ()),))
        self.assertEqual((Form.named(0) ** 3).terms, ())
        self.assertEqual((some ** 1).terms, some.terms)
        self.assertEqual((some ** 2).terms, ((4, ()), (4, (ONE,)), (1, (ONE, ONE))))
        self.assertEqual((Form.named(9) ** 9).terms, ((9 ** 9, ()),))
        nine = some
        for _ in range(8):
            nine = nine * some
        self.assertEqual((some ** 9).terms, nine.terms)
        self.assertEqual((some ** 9)[(ONE,) * 4], 126 * 32)

    def test_equal(self):
        some = Form(((2, ()), (1, (ONE,))))
        self.assertTrue(some == Form.of_kind(("either", ONE, named(2))))
        self.assertFalse(some == Form.of_kind(("either", ONE, named(3))))
        self.assertFalse(some == some.terms)
        self.assertFalse(some == 2)
        self.assertTrue(some != Form.named(2))
        self.assertTrue(Form.named(2) < some and Form.named(0) < Form.named(1) and not some < some)
        with self.assertRaises(TypeError):
            some < some.terms

    def test_of_plain_kinds(self):
        for kind in plain_kinds(2):
            if kind[0] != "named":
                self.terms(kind, (1, (kind,)))
        self.terms(named(0))
        self.terms(named(1), (1, ()))
        self.terms(named(9), (9, ()))

    def test_of_built_kinds(self):
        some = ("either", ONE, named(2))
        inner = ((2, ()), (1, (ONE,)))
        self.terms(("either", ONE, ONE), (2, (ONE,)))
        self.terms(("both", ROW, ONE), (1, (ONE, ROW)))
        self.terms(("both", ONE, named(0)))
        self.terms(("lots", some, 0), (1, ()))
        self.terms(("lots", some, 1), *inner)
        self.terms(("lots", some, 2), (1, (("lots", inner, 2),)))
        self.terms(("lots", some, 9), (1, (("lots", inner, 9),)))
        self.terms(("lots", named(0), 2), (1, (("lots", (), 2),)))
        self.terms(("pairing", some, ONE), (1, (("pairing", inner, ((1, (ONE,)),)),)))
        self.terms(("pairing", named(0), named(0)), (1, (("pairing", (), ()),)))
        self.terms(("maps", named(2), ONE), (1, (ONE, ONE)))
        self.terms(("maps", named(2), some), (4, ()), (4, (ONE,)), (1, (ONE, ONE)))
        self.terms(("maps", named(0), named(0)), (1, ()))
        self.terms(("maps", named(1), named(0)))
        self.terms(("maps", ONE, named(0)), (1, (("maps", ((1, (ONE,)),), ()),)))
        self.terms(("maps", some, named(0)))
        self.terms(("maps", ONE, ROW), (1, (("maps", ((1, (ONE,)),), ((1, (ROW,)),)),)))
        self.terms(("maps", ("both", ONE, named(2)), ROW), (1, (("maps", ((1, (ONE,)),), ((1, (ROW,)),)),) * 2))
        self.terms(("maps", some, ROW), (1, (("maps", ((1, (ONE,)),), ((1, (ROW,)),)), ROW, ROW)))
        self.terms(("maps", ("both", ONE, ROW), ONE), (1, (("maps", ((1, (ONE, ROW)),), ((1, (ONE,)),)),)))

    def test_order_of_atoms(self):
        kinds = [("web", 0), ("tree", 0), ("round", 0), ("row", 1), ("row", 0), ("parts", 0, (1, 2)), ("parts", 0, (1, 1, 2)),
                 ("pairing", ONE, ONE), ("one", 0), ("maps", ONE, ONE), ("lots", ONE, 3), ("lots", ONE, 2),
                 ("lot", 1, 0), ("lot", 0, 9), ("hand", 0)]
        form = Form.of_kind(sum_of(kinds))
        self.assertEqual([atoms[0][0] for _, atoms in form],
                         ["hand", "lot", "lot", "lots", "lots", "maps", "one", "pairing", "parts", "parts", "round", "row",
                          "row", "tree", "web"])
        self.assertEqual([atoms[0] for _, atoms in form][1:3], [("lot", 0, 9), ("lot", 1, 0)])
        self.assertEqual([atoms[0] for _, atoms in form][8:10], [("parts", 0, (1, 1, 2)), ("parts", 0, (1, 2))])
        self.assertEqual([count for count, _ in form], [1] * 15)

    def test_of_many_kinds(self):
        for kind in plain_kinds(1) + built_kinds(1) + form_kinds():
            self.assertEqual(Form.of_kind(kind).terms, slow_terms(kind), kind)

    def test_number_of_addresses(self):
        for sizes in WORLDS:
            world = World(sizes)
            for kind in plain_kinds(len(sizes)) + built_kinds(len(sizes)) + form_kinds():
                form = Form.of_kind(kind)
                many = form(world)
                try:
                    self.assertEqual(many, count_structures(world, kind), kind)
                except TooMany:
                    self.assertEqual(many, len(uncounted_structures(world, kind)), kind)
                if many < 500:
                    self.assertEqual(many, len(slow_addresses(sizes, form.terms)))

    def test_very_many_addresses(self):
        world = World((4,))
        self.assertEqual(Form.of_kind(("maps", WEB, WEB))(world), 64 ** 64)
        self.assertEqual(Form.of_kind(("pairing", WEB, ("maps", named(3), ("one", 0))))(world),
                         Form.of_kind(("pairing", WEB, WEB))(world))
        self.assertEqual(Form.of_kind(("lots", WEB, 9))(world), 27540584512)
        self.assertEqual(Form(((10 ** 50, (WEB, WEB)),))(world), 10 ** 50 * 4096)
        self.assertEqual(Form.of_kind(("maps", HUNDRED, TEN))(world), 10 ** 100)
        empty = World((4, 0))
        self.assertEqual((Form.of_kind(("lots", WEB, 9)) * Form.of_kind(("one", 1)))(empty), 0)
        self.assertEqual(Form(())(world), 0)
        self.assertEqual(Form.named(1)(world), 1)

    def test_a_hundred_terms(self):
        left, right = sum_of(plain(0, 10)), sum_of(plain(1, 10))
        check_kind(("both", left, right), 2)
        self.assertEqual(len(Form.of_kind(("both", left, right)).terms), 100)
        more = ("both", left, sum_of(plain(1, 11)))
        self.too_many(more, more)
        exact = ("maps", NINETY_NINE, ("either", ONE, named(1)))
        self.assertEqual(len(Form.of_kind(exact).terms), 100)
        over = ("either", exact, ROW)
        self.too_many(over, over)
        self.assertEqual(len(Form.of_kind(("either", exact, ONE)).terms), 100)
        over = ("maps", HUNDRED, ("either", ONE, named(1)))
        self.too_many(over, over)
        # So many terms that they could not be made one by one.
        over = ("maps", HUNDRED, sum_of(plain(0, 16)))
        self.too_many(over, over)

    def test_a_hundred_factors(self):
        self.terms(("maps", HUNDRED, ROW), (1, (ROW,) * 100))
        self.terms(("maps", HUNDRED, named(2)), (2 ** 100, ()))
        self.terms(("maps", HUNDRED, named(0)))
        for answer in (ROW, named(1), named(0)):
            self.too_many(("maps", HUNDRED_ONE, answer), ("maps", HUNDRED_ONE, answer))
        counted = ("both", HUNDRED, ONE)
        self.assertEqual(len(Form.of_kind(("maps", counted, ROW)).terms[0][1]), 100)
        over = ("maps", ("either", counted, ROW), ROW)
        self.too_many(over, over)
        self.too_many(("maps", ("either", counted, named(1)), ONE), ("maps", ("either", counted, named(1)), ONE))
        # So many factors are wrong only for a `maps` kind itself.
        self.terms(("both", HUNDRED, HUNDRED), (10000, ()))
        self.terms(("lots", ("both", HUNDRED, HUNDRED), 1), (10000, ()))

    def test_first_part_with_too_many(self):
        wide = ("maps", HUNDRED, ("either", ONE, named(1)))
        long = ("maps", HUNDRED_ONE, named(0))
        self.too_many(("both", wide, named(0)), wide)
        self.too_many(("both", named(0), long), long)
        self.too_many(("either", wide, long), wide)
        self.too_many(("either", long, wide), long)
        self.too_many(("lots", wide, 0), wide)
        self.too_many(("maps", named(0), long), long)
        self.too_many(("maps", HUNDRED_ONE, wide), wide)
        self.too_many(("pairing", long, wide), long)
        many = sum_of(plain(0, 16) + plain(1, 16))
        check_kind(many, 2)
        self.assertEqual(len(Form.of_kind(many).terms), 32)


if __name__ == "__main__":
    unittest.main()
