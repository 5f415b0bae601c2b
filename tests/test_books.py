"""Tests of nonames.books (points 125 to 132)."""

import unittest
from nonames.books import KindBook
from nonames.errors import BadEntry, BadKind, TooMany, UnknownName
from nonames.helped import unhelped_groups
from nonames.lattices import Lattice
from nonames.powers import Power
from nonames.spaces import Space
from nonames.worlds import World

TEN = ("either", ("named", 9), ("named", 1))
MORE = ("either", ("both", TEN, TEN), ("named", 1))
SETS = [(), [("pick", 2)], [("pick", 3)], (("pick", 2), ("pick", 3)), [("make", 3, ("round", 0))], [("pick", 6)]]


class BookTest(unittest.TestCase):
    def setUp(self):
        self.lattice = Lattice(World((3,)))
        self.book = KindBook(self.lattice)
        for name, kind in (("thing", ("one", 0)), ("circle", ("round", 0)), ("hand", ("hand", 0)), ("row", ("row", 0))):
            self.book[name] = kind

    def great_book(self):
        book = KindBook(self.lattice)
        kinds = {"none": ("named", 0), "unit": ("named", 1), "hand": ("hand", 0), "thing": ("one", 0),
                 "pair": ("lot", 0, 2), "row": ("row", 0), "web": ("web", 0), "circle": ("round", 0),
                 "turn": ("both", ("one", 0), ("hand", 0)), "mixed": ("either", ("one", 0), ("hand", 0)),
                 "order": ("lots", ("row", 0), 2), "tree": ("tree", 0)}
        for name, kind in kinds.items():
            book[name] = kind
        return book, kinds

    def bad(self, error, name, kind, given):
        before = [(key, self.book[key]) for key in self.book]
        with self.assertRaises(error) as caught:
            self.book[name] = kind
        self.assertEqual(caught.exception.given, given)
        self.assertEqual([(key, self.book[key]) for key in self.book], before)
        self.assertEqual(self.book.alike(), [("thing",), ("circle", "hand"), ("row",)])

    def test_example(self):
        self.assertEqual(self.book.alike(), [("thing",), ("circle", "hand"), ("row",)])
        self.assertEqual(self.book.steps(), [(2, 0), (2, 1)])
        self.assertEqual(self.book.refusal("hand", "thing"), 4)
        self.assertEqual(self.lattice.groups[4], (0, 3, 4))

    def test_attribute(self):
        self.assertIs(self.book.lattice, self.lattice)

    def test_empty_book(self):
        book = KindBook(self.lattice)
        self.assertEqual((list(book), book.alike(), book.steps(), "thing" in book), ([], [], [], False))

    def test_names(self):
        for name in ("a", "z", "abcdefghijkl", "zzzzzzzzzzzz"):
            self.book[name] = ("one", 0)
            self.assertEqual(self.book[name], ("one", 0))

    def test_bad_names(self):
        for name in ("", "abcdefghijklm", "a" * 100, "A", "aB", "a1", "a b", " a", "a ", "a_b", "a-b", "a\n", "{", "`",
                     "\xe9", "\xdf", "1", "a.b"):
            self.bad(BadEntry, name, ("one", 0), name)

    def test_bad_kinds(self):
        self.bad(BadKind, "new", ("one", 1), ("one", 1))
        self.bad(BadKind, "thing", ("both", ("one", 0), 4), 4)
        self.bad(TooMany, "new", MORE, MORE)
        self.bad(TooMany, "thing", ("lots", MORE, 0), MORE)

    def test_order_of_errors(self):
        self.bad(BadEntry, "New", ("one", 1), "New")
        self.bad(BadEntry, "", MORE, "")
        self.bad(BadEntry, "abcdefghijklm", 5, "abcdefghijklm")
        self.bad(BadKind, "new", ("both", MORE, ("one", 1)), ("one", 1))

    def test_entries(self):
        self.assertEqual(self.book["thing"], ("one", 0))
        self.assertEqual(list(self.book), ["thing", "circle", "hand", "row"])
        self.assertEqual([name in self.book for name in ("thing", "row", "web", "")], [True, True, False, False])
        for name in ("web", "", "Thing"):
            with self.assertRaises(UnknownName) as caught:
                self.book[name]
            self.assertEqual(caught.exception.given, name)

    def test_entry_in_the_place_of_an_older_one(self):
        self.book["thing"] = ("row", 0)
        self.assertEqual(self.book["thing"], ("row", 0))
        self.assertEqual(list(self.book), ["thing", "circle", "hand", "row"])
        self.assertEqual(self.book.alike(), [("thing", "row"), ("circle", "hand")])
        self.assertEqual(self.book.steps(), [(0, 1)])
        self.assertEqual(self.book.either_of("thing").classes, (0,))

    def test_unknown_names(self):
        for name, other, given in (("web", "tree", "web"), ("thing", "tree", "tree"), ("web", "row", "web"), ("", "row", "")):
            for method in (self.book.makes, self.book.refusal, self.book.together, self.book.either_of):
                with self.assertRaises(UnknownName) as caught:
                    method(name, other)
                self.assertEqual(caught.exception.given, given)
            for method in (self.book.makes, self.book.refusal):
                with self.assertRaises(UnknownName) as caught:
                    method(name, other, helpers=[("pick", 2)])
                self.assertEqual(caught.exception.given, given)
        for method in (self.book.together, self.book.either_of):
            with self.assertRaises(UnknownName) as caught:
                method("thing", "row", "web", "thing", "tree")
            self.assertEqual(caught.exception.given, "web")

    def test_makes_and_refusal_without_helpers(self):
        makes = [(name, other) for name in self.book for other in self.book if self.book.makes(name, other)]
        self.assertEqual(makes, [("thing", "thing"), ("circle", "circle"), ("circle", "hand"), ("hand", "circle"),
                                 ("hand", "hand"), ("row", "thing"), ("row", "circle"), ("row", "hand"), ("row", "row")])
        self.assertIs(self.book.makes("row", "thing"), True)
        self.assertIs(self.book.makes("thing", "row"), False)
        self.assertEqual((self.book.refusal("thing", "row"), self.book.refusal("thing", "hand"),
                          self.book.refusal("hand", "row"), self.book.refusal("row", "thing")), (1, 1, 4, None))

    def test_makes_and_refusal_with_helpers(self):
        three, two = [("pick", 3)], (("pick", 2),)
        self.assertIs(self.book.makes("hand", "thing", helpers=three), True)
        self.assertIsNone(self.book.refusal("hand", "thing", helpers=three))
        self.assertIs(self.book.makes("thing", "hand", helpers=three), False)
        self.assertEqual(self.book.refusal("thing", "hand", helpers=three), 1)
        self.assertIs(self.book.makes("thing", "hand", helpers=two), True)
        self.assertEqual(self.book.refusal("hand", "thing", helpers=two), 4)
        self.assertEqual(self.book.refusal("hand", "thing", helpers=()), 4)
        self.assertEqual(self.book.refusal("hand", "thing", helpers=[("pick", 1)]), 4)

    def test_makes_and_refusal_of_many_kinds(self):
        book, kinds = self.great_book()
        for helpers in SETS:
            unhelped = unhelped_groups(self.lattice, helpers)
            for name in kinds:
                source = Space(self.lattice.world, kinds[name])
                for other in kinds:
                    goal = Space(self.lattice.world, kinds[other])
                    kept = [number for number in unhelped if source.fixed(self.lattice.groups[number])
                            and not goal.fixed(self.lattice.groups[number])]
                    self.assertIs(book.makes(name, other, helpers=helpers), not kept)
                    self.assertEqual(book.refusal(name, other, helpers=helpers), kept[0] if kept else None)

    def test_alike_and_steps_of_many_kinds(self):
        book, kinds = self.great_book()
        for helpers in SETS:
            lots = book.alike(helpers=helpers)
            self.assertIsInstance(lots, list)
            slow = []
            for name in kinds:
                lot = tuple(other for other in kinds if book.makes(name, other, helpers=helpers)
                            and book.makes(other, name, helpers=helpers))
                if lot not in slow:
                    slow.append(lot)
            self.assertEqual(lots, slow)
            makes = [[book.makes(first[0], second[-1], helpers=helpers) for second in lots] for first in lots]
            places = range(len(lots))
            steps = [(i, j) for i in places for j in places if i != j and makes[i][j]
                     and not any(k not in (i, j) and makes[i][k] and makes[k][j] for k in places)]
            self.assertEqual(book.steps(helpers=helpers), steps)
            self.assertEqual([[self.path(steps, i, j) for j in places] for i in places], makes)

    def path(self, steps, start, goal):
        return start == goal or any(self.path(steps, middle, goal) for first, middle in steps if first == start)

    def test_alike_and_steps_with_helpers(self):
        self.assertEqual(self.book.alike(helpers=[("pick", 3)]), [("thing",), ("circle", "hand", "row")])
        self.assertEqual(self.book.steps(helpers=[("pick", 3)]), [(1, 0)])
        self.assertEqual(self.book.alike(helpers=(("pick", 2),)), [("thing", "row"), ("circle", "hand")])
        self.assertEqual(self.book.steps(helpers=(("pick", 2),)), [(0, 1)])
        both = [("pick", 2), ("pick", 3)]
        self.assertEqual(self.book.alike(helpers=both), [("thing", "circle", "hand", "row")])
        self.assertEqual(self.book.steps(helpers=both), [])

    def test_steps_leave_out_what_a_third_place_gives(self):
        book = KindBook(self.lattice)
        for name, kind in (("row", ("row", 0)), ("unit", ("named", 1)), ("hand", ("hand", 0)), ("none", ("named", 0))):
            book[name] = kind
        self.assertEqual(book.steps(), [(0, 2), (2, 1), (3, 0)])

    def test_together_and_either_of(self):
        self.assertEqual(self.book.together("thing", "hand").classes, (0,))
        self.assertEqual(self.book.either_of("thing", "hand").classes, (0, 1, 2))
        self.assertEqual(self.book.together("thing").classes, (0, 1))
        self.assertEqual(self.book.either_of("hand").classes, (0, 2))
        self.assertEqual(self.book.together("hand", "circle", "hand").classes, (0, 2))
        self.assertEqual(self.book.either_of("row", "row", "thing").classes, (0, 1))
        self.assertIsInstance(self.book.together("thing"), Power)
        self.assertIs(self.book.either_of("thing").lattice, self.lattice)

    def test_together_and_either_of_without_names(self):
        self.assertTrue(self.book.together() == Power.full(self.lattice))
        self.assertTrue(self.book.either_of() == Power(self.lattice, ()))
        self.assertFalse(self.book.either_of())

    def test_book_of_two_sorts(self):
        lattice = Lattice(World((2, 1)))
        book = KindBook(lattice)
        book["first"] = ("one", 0)
        book["other"] = ("one", 1)
        book["none"] = ("lot", 1, 2)
        self.assertEqual(book.alike(), [("first",), ("other",), ("none",)])
        self.assertEqual(book.steps(), [(0, 1), (2, 0)])

    def test_returned_lists_changed_by_the_caller(self):
        self.book.alike().clear()
        self.book.steps().clear()
        self.assertEqual(self.book.alike(), [("thing",), ("circle", "hand"), ("row",)])
        self.assertEqual(self.book.steps(), [(2, 0), (2, 1)])


if __name__ == "__main__":
    unittest.main()
