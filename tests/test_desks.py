"""Tests of nonames.desks (points 147 to 155)."""

import unittest
from nonames.books import KindBook
from nonames.desks import Desk, do_all
from nonames.errors import (BadEntry, BadHelper, BadKind, BadText, BadWorld, NonamesError, NothingToUndo, TooMany,
                            UnknownName)
from nonames.lattices import Lattice
from nonames.plans import good_groups
from nonames.sizes import least_sizes
from nonames.spaces import Space
from nonames.verdicts import find_verdict
from nonames.worlds import World

MANY = ("both", ("web", 0), ("both", ("web", 0), ("named", 2)))
MANY_TEXT = "both(web(a),both(web(a),named(2)))"
LINES = ["kind thing = one( a )", "kind row = row(a)", "help pick 2", "ask thing row", "ask row thing"]


class DeskTest(unittest.TestCase):
    def setUp(self):
        self.desk = Desk((3,))
        do_all(self.desk, LINES)

    def state(self, desk):
        return ([(name, desk[name]) for name in desk], desk.allowed, desk.questions, desk.lines, desk.top, desk.write())

    def bad(self, error, given, method, *values):
        before = self.state(self.desk)
        with self.assertRaises(error) as caught:
            method(*values)
        self.assertIs(type(caught.exception), error)
        self.assertEqual(caught.exception.given, given)
        self.assertEqual(self.state(self.desk), before)
        return caught.exception

    def test_example(self):
        desk = Desk((3,))
        self.assertEqual([do_all(desk, LINES), desk.verdicts(), desk.undo(), desk.write()],
                         [5, [('thing', 'row', 'plans'), ('row', 'thing', 'rule')], 'ask row thing',
                          'world 3\nkind thing = one(a)\nkind row = row(a)\nhelp pick 2\nask thing row'])

    def test_new_desk(self):
        desk = Desk([2, 1])
        self.assertIsInstance(desk.world, World)
        self.assertIsInstance(desk.lattice, Lattice)
        self.assertEqual((desk.world.sizes, desk.lattice.world), ((2, 1), desk.world))
        self.assertEqual(self.state(desk), ([], (), (), (), 12, "world 2+1"))
        self.assertEqual((desk.verdicts(), list(desk.book())), ([], []))

    def test_no_world(self):
        for sizes in ((), (5,), [1, -1], (4, 2), [1, 1, 1]):
            with self.assertRaises(BadWorld) as caught:
                Desk(sizes)
            self.assertEqual(caught.exception.given, tuple(sizes))

    def test_each_form_of_line(self):
        desk = Desk((3, 2))
        self.assertIsNone(desk.do("kind a = pairing( one(a), one( b ))"))
        desk.do("kind abcdefghijkl =   both(one(b),named(0))  ")
        self.assertEqual(list(desk), ["a", "abcdefghijkl"])
        self.assertEqual(desk["abcdefghijkl"], ("both", ("one", 1), ("named", 0)))
        desk.do("help pick 12")
        desk.do("help make 0  row( a ) ")
        desk.do("help make 4 web(a)")
        desk.do("help pick 12")
        self.assertEqual(desk.allowed, (("pick", 12), ("make", 0, ("row", 0)), ("make", 4, ("web", 0)), ("pick", 12)))
        desk.do("ask a a")
        desk.do("ask a abcdefghijkl")
        desk.do("ask abcdefghijkl a")
        self.assertEqual(desk.questions, (("a", "a"), ("a", "abcdefghijkl"), ("abcdefghijkl", "a")))
        desk.do("leave a abcdefghijkl")
        desk.do("stop 1")
        desk.do("stop 0")
        self.assertEqual((desk.questions, desk.allowed),
                         ((("a", "a"), ("abcdefghijkl", "a")), (("make", 4, ("web", 0)), ("pick", 12))))
        desk.do("leave abcdefghijkl a")
        desk.do("drop abcdefghijkl")
        self.assertEqual((list(desk), desk.questions), (["a"], (("a", "a"),)))
        self.assertEqual(desk.lines, (
            "kind a = pairing(one(a),one(b))", "kind abcdefghijkl = both(one(b),named(0))", "help pick 12",
            "help make 0 row(a)", "help make 4 web(a)", "help pick 12", "ask a a", "ask a abcdefghijkl",
            "ask abcdefghijkl a", "leave a abcdefghijkl", "stop 1", "stop 0", "leave abcdefghijkl a", "drop abcdefghijkl"))

    def test_helpers_with_numbers_of_two_digits(self):
        desk = Desk((2,))
        do_all(desk, ["help pick 1"] * 12 + ["help pick 2", "stop 11"])
        desk.do("stop 11")
        self.assertEqual(desk.allowed, (("pick", 1),) * 11)
        self.desk = desk
        self.bad(BadEntry, "stop 11", desk.do, "stop 11")
        desk.do("stop 10")

    def test_lines_near_the_forms(self):
        wrong = ["", " ", "kind", "kind ", "kind thing", "kind thing =", "kind thing=one(a)", "kind thing =one(a)", "kind thing= one(a)",
                 "kind  = one(a)", "kind  thing = one(a)", "kind thing  = one(a)", " kind thing = one(a)", "kind Thing = one(a)",
                 "kind thing one(a)", "kind two words = one(a)", "kind thing1 = one(a)", "kind abcdefghijklm = one(a)",
                 "Kind thing = one(a)", "kinds thing = one(a)", "drop", "drop ", "drop  thing", "drop thing ", " drop thing",
                 "drop thing row", "drop Thing", "drop abcdefghijklm", "drop x1", "help", "help ", "help pick", "help pick ",
                 "help  pick 2", "help pick  2", "help pick 2 ", "help pick 02", "help pick 00", "help pick 100", "help pick -1",
                 "help pick +1", "help pick x", "help pick 2 one(a)", "help pick 2x", "help Pick 2", "help take 2", "help make",
                 "help make ", "help make 2", "help make one(a)", "help make 02 one(a)", "help make 100 one(a)", "help make -1 one(a)",
                 "help make  2 one(a)", "help  make 2 one(a)", "help make x one(a)", "stop", "stop ", "stop  0", "stop 0 ", " stop 0",
                 "stop 00", "stop 100", "stop -1", "stop x", "stop 0 0", "stop 01", "ask", "ask ", "ask thing", "ask thing ",
                 "ask  thing row", "ask thing  row", "ask thing row ", " ask thing row", "ask thing row row", "ask Thing row",
                 "ask thing r0w", "ask thing abcdefghijklm", "leave", "leave thing", "leave thing row ", "leave thing  row",
                 "leave thing row x", "leave thing Row", "thing", "undo", "world 3", "write", "kind thing == one(a)", "dropthing",
                 "help pick2", "asks thing row"]
        for line in wrong:
            self.bad(BadEntry, line, self.desk.do, line)

    def test_errors_of_kind(self):
        for text, place in (("", 0), (" ", 1), ("one(c)", 4), ("one(a) one", 7), ("= one(a)", 0), ("one(a", 5), ("One(a)", 0),
                            ("lot(a,02)", 6)):
            for line in ("kind thing = " + text, "kind new = " + text, "help make 2 " + text, "help make 99 " + text):
                error = self.bad(BadText, text, self.desk.do, line)
                self.assertEqual(error.place, place)
        self.bad(BadKind, ("one", 1), self.desk.do, "kind thing = one(b)")
        self.bad(BadKind, ("lot", 0, 10), self.desk.do, "kind new = both(" + MANY_TEXT + ",lot(a,10))")
        self.bad(TooMany, MANY, self.desk.do, "kind thing = " + MANY_TEXT)
        self.bad(TooMany, MANY, self.desk.do, "kind new = lots(" + MANY_TEXT + ",0)")
        # The form of the line is looked at first.
        self.bad(BadEntry, "kind New = one(b)", self.desk.do, "kind New = one(b)")
        self.bad(BadEntry, "kind x1 = ", self.desk.do, "kind x1 = ")
        two = Desk((2, 1))
        two.do("kind other = one(b)")
        self.assertEqual(two["other"], ("one", 1))

    def test_errors_of_help(self):
        self.bad(BadHelper, ("pick", 0), self.desk.do, "help pick 0")
        self.bad(BadHelper, ("pick", 13), self.desk.do, "help pick 13")
        self.bad(BadHelper, ("pick", 99), self.desk.do, "help pick 99")
        self.bad(BadHelper, ("make", 5, ("one", 0)), self.desk.do, "help make 5 one(a)")
        # The text ahead of the number; the kind of point 67 in its order.
        self.bad(BadKind, ("one", 1), self.desk.do, "help make 5 one(b)")
        self.bad(BadHelper, ("make", 5, MANY), self.desk.do, "help make 5 " + MANY_TEXT)
        self.bad(TooMany, MANY, self.desk.do, "help make 3 " + MANY_TEXT)
        self.bad(TooMany, MANY[2], self.desk.do, "help make 4 " + MANY_TEXT)
        self.bad(BadHelper, ("make", 0, ("one", 0)), self.desk.do, "help make 0 one(a)")
        self.bad(BadHelper, ("make", 2, ("named", 0)), self.desk.do, "help make 2 named( 0 )")
        # In a world of two sorts a helper still makes of one sort.
        self.desk = Desk((2, 2))
        self.bad(BadKind, ("row", 1), self.desk.do, "help make 2 row(b)")

    def test_errors_of_drop(self):
        self.bad(UnknownName, "web", self.desk.do, "drop web")
        self.bad(BadEntry, "drop thing", self.desk.do, "drop thing")
        self.bad(BadEntry, "drop row", self.desk.do, "drop row")
        self.desk.do("leave thing row")
        self.bad(BadEntry, "drop thing", self.desk.do, "drop thing")
        self.desk.do("leave row thing")
        self.desk.do("drop thing")
        self.bad(UnknownName, "thing", self.desk.do, "drop thing")

    def test_errors_of_stop_ask_and_leave(self):
        self.bad(BadEntry, "stop 1", self.desk.do, "stop 1")
        self.bad(BadEntry, "stop 99", self.desk.do, "stop 99")
        self.bad(UnknownName, "web", self.desk.do, "ask web tree")
        self.bad(UnknownName, "tree", self.desk.do, "ask thing tree")
        self.bad(UnknownName, "web", self.desk.do, "ask web thing")
        self.bad(BadEntry, "ask thing row", self.desk.do, "ask thing row")
        self.bad(BadEntry, "leave thing thing", self.desk.do, "leave thing thing")
        self.bad(BadEntry, "leave web tree", self.desk.do, "leave web tree")
        self.desk.do("leave thing row")
        self.bad(BadEntry, "leave thing row", self.desk.do, "leave thing row")
        self.desk.do("stop 0")
        self.bad(BadEntry, "stop 0", self.desk.do, "stop 0")

    def test_undo_down_to_the_beginning(self):
        lines = ["kind thing = one(a)", "kind row = row(a)", "kind thing = web(a)", "help pick 2", "help make 3 round(a)", "stop 0",
                 "ask thing row", "ask row row", "leave thing row", "drop thing", "kind thing = hand(a)", "help pick 3", "stop 1"]
        desk = Desk((3,))
        states = []
        for line in lines:
            states.append(self.state(desk))
            desk.do(line)
        for line, before in zip(lines[::-1], states[::-1]):
            self.assertEqual(desk.undo(), line)
            self.assertEqual(self.state(desk), before)
        self.desk = desk
        self.bad(NothingToUndo, None, desk.undo)

    def test_undo_returns_the_line_as_it_was_written(self):
        self.desk.do("kind web =  web(a)")
        self.desk.do("help make 3   hand(a)")
        self.assertEqual([self.desk.undo(), self.desk.undo(), self.desk.undo()],
                         ["help make 3 hand(a)", "kind web = web(a)", "ask row thing"])
        self.desk.do("ask row row")
        self.assertEqual(self.desk.lines[-2:], ("ask thing row", "ask row row"))

    def test_kind_that_replaces_another_one(self):
        self.desk.do("kind thing = hand(a)")
        self.assertEqual(([(name, self.desk[name]) for name in self.desk], self.desk.space_of("thing").kind),
                         ([("thing", ("hand", 0)), ("row", ("row", 0))], ("hand", 0)))
        self.assertEqual(self.desk.questions, (("thing", "row"), ("row", "thing")))
        self.desk.undo()
        self.assertEqual((self.desk["thing"], list(self.desk)), (("one", 0), ["thing", "row"]))
        # A name that was dropped comes back at the end.
        do_all(self.desk, ["leave thing row", "leave row thing", "drop thing", "kind thing = one(a)"])
        self.assertEqual(list(self.desk), ["row", "thing"])
        self.desk.undo()
        self.desk.undo()
        self.assertEqual(list(self.desk), ["thing", "row"])

    def test_do_all(self):
        self.assertEqual(do_all(self.desk, []), 0)
        self.assertEqual(do_all(self.desk, ("kind web = web(a)", "ask web web")), 2)
        self.assertEqual(self.desk.lines[-2:], ("kind web = web(a)", "ask web web"))
        self.assertEqual((self.desk.undo(), self.desk.undo()), ("ask web web", "kind web = web(a)"))
        good = ["kind web = web(a)", "stop 0", "leave thing row", "ask web web", "kind thing = web(a)"]
        for wrong, error, given in (("ask web tree", UnknownName, "tree"), ("kind new = one(b)", BadKind, ("one", 1)),
                                    ("", BadEntry, ""), ("help pick 13", BadHelper, ("pick", 13)),
                                    ("kind row = " + MANY_TEXT, TooMany, MANY), ("kind row = (", BadText, "(")):
            for at in range(len(good) + 1):
                if wrong != "ask web tree" or at > 0:
                    lines = good[:at] + [wrong] + good[at:]
                    self.bad(error, given, do_all, self.desk, lines)
                    self.bad(error, given, do_all, self.desk, tuple(lines))
        # What undo takes back is what it was before the call.
        self.assertEqual(self.desk.undo(), "ask row thing")

    def desks(self):
        longer = ["kind b = pairing(one(a),one(b))", "kind a = parts(a,1+2)", "kind b = lots(one(b),2)",
                  "help make 3 parts(a,1+2)", "help pick 2", "help pick 2", "ask b a", "ask a a", "stop 1"]
        for sizes, lines in (((3,), []), ((0,), ["kind a = one(a)"]), ((2, 1), ["help pick 12", "help make 1 tree(a)"]),
                             ((3,), LINES), ((3, 2), longer)):
            desk = Desk(sizes)
            do_all(desk, lines)
            yield desk

    def test_write_and_read(self):
        for desk in self.desks():
            text = desk.write()
            other = Desk.read(text)
            self.assertIsInstance(other, Desk)
            self.assertEqual(self.state(other), self.state(desk)[:3] + ((), 12, text))
            self.assertEqual((other.world.sizes, other.lines), (desk.world.sizes, ()))
            with self.assertRaises(NothingToUndo):
                other.undo()
            other.do("help pick 7")
            self.assertEqual((other.lines, other.undo()), (("help pick 7",), "help pick 7"))

    def test_written_text(self):
        desk = list(self.desks())[-1]
        self.assertEqual(desk.write(), "world 3+2\nkind b = lots(one(b),2)\nkind a = parts(a,1+2)\nhelp make 3 parts(a,1+2)\n"
                         "help pick 2\nask b a\nask a a")

    def test_read_other_texts(self):
        desk = Desk.read("world  2 + 1 \nkind x =  one( b ) \nkind y = one(a)\nhelp pick 3\nstop 0\nask x y\nleave x y\ndrop y")
        self.assertEqual(self.state(desk), ([("x", ("one", 1))], (), (), (), 12, "world 2+1\nkind x = one(b)"))
        self.assertEqual(Desk.read("world 0").write(), "world 0")

    def test_errors_of_read(self):
        for text, error, given in (
                ("", BadEntry, ""), ("world", BadEntry, "world"), ("World 3", BadEntry, "World 3"), (" world 3", BadEntry, " world 3"),
                ("kind a = one(a)\nworld 3", BadEntry, "kind a = one(a)"), ("\nworld 3", BadEntry, ""),
                ("world+3\nno", BadEntry, "world+3"), ("world ", BadText, ""), ("world x\nno", BadText, "x"), ("world 3+", BadText, "3+"),
                ("world 5\nno", BadWorld, (5,)), ("world 4+2", BadWorld, (4, 2)), ("world 3\n", BadEntry, ""),
                ("world 3\n\nkind a = one(a)", BadEntry, ""), ("world 3\nkind a = one(a)\n", BadEntry, ""),
                ("world 3\nworld 3", BadEntry, "world 3"), ("world 3\nkind a = one(b)", BadKind, ("one", 1)),
                ("world 3\nkind a = ", BadText, ""), ("world 3\nask a b\nkind a = one(a)", UnknownName, "a"),
                ("world 3\nhelp pick 0", BadHelper, ("pick", 0)), ("world 3\nkind a = " + MANY_TEXT + "\n", TooMany, MANY),
                ("world 3\nkind a = one(a)\nask a a\nask a a", BadEntry, "ask a a"), ("world 3 \nkind a = one(a) ", None, None),
                ("world 3\nstop 0", BadEntry, "stop 0")):
            if error is None:
                self.assertEqual(Desk.read(text).write(), "world 3\nkind a = one(a)")
                continue
            with self.assertRaises(NonamesError) as caught:
                Desk.read(text)
            self.assertEqual((type(caught.exception), caught.exception.given), (error, given), text)

    def test_top(self):
        desk = self.desk
        self.assertEqual(desk.top, 12)
        desk.top = 6
        self.assertEqual((desk.top, desk.least_for("thing", "row")), (6, [(2,), (4,), (6,)]))
        self.assertIsNone(desk.set_top(0))
        self.assertEqual((desk.top, desk.least_for("thing", "row"), desk.least_for("row", "thing")), (0, [], [()]))
        desk.top = 12
        self.assertEqual(desk.top, 12)
        desk.set_top(5)
        for value in (-1, 13, 10 ** 9, -100):
            self.bad(BadEntry, value, desk.set_top, value)
            self.bad(BadEntry, value, setattr, desk, "top", value)
        self.assertEqual(desk.undo(), "ask row thing")
        self.assertEqual((desk.top, "5" in desk.write(), Desk.read(desk.write()).top), (5, False, 12))
        with self.assertRaises(UnknownName):
            do_all(desk, ["help pick 4", "drop web"])
        self.assertEqual(desk.top, 5)

    def test_names_and_spaces(self):
        desk = self.desk
        self.assertEqual(("thing" in desk, "web" in desk, "" in desk, list(desk)), (True, False, False, ["thing", "row"]))
        self.assertEqual((desk["thing"], desk["row"]), (("one", 0), ("row", 0)))
        space = desk.space_of("row")
        self.assertIsInstance(space, Space)
        self.assertEqual((space.kind, space.world.sizes, space.size), (("row", 0), (3,), 6))
        desk.do("kind web = web(a)")
        self.assertEqual(list(desk), ["thing", "row", "web"])
        desk.undo()
        self.assertNotIn("web", desk)

    def test_unknown_names(self):
        desk = self.desk
        self.bad(UnknownName, "web", lambda: desk["web"])
        self.bad(UnknownName, "", lambda: desk[""])
        self.bad(UnknownName, "web", desk.space_of, "web")
        for method in (desk.verdict_of, desk.least_for):
            self.bad(UnknownName, "web", method, "web", "tree")
            self.bad(UnknownName, "tree", method, "thing", "tree")
            self.bad(UnknownName, "web", method, "web", "thing")
        self.assertRaises(UnknownName, Desk((2,)).verdict_of, "a", "b")

    def test_verdicts_and_sizes(self):
        desk = Desk((3,))
        do_all(desk, ["kind none = named(0)", "kind thing = one(a)", "kind circle = round(a)", "kind row = row(a)"])
        for lines in ([], ["help pick 3"], ["help pick 2"], ["stop 0"], ["help make 3 round(a)"]):
            do_all(desk, lines)
            for name in desk:
                for other in desk:
                    source, goal = Space(desk.world, desk[name]), Space(desk.world, desk[other])
                    self.assertEqual(desk.verdict_of(name, other), find_verdict(desk.lattice, source, goal, helpers=desk.allowed))
                    for top in (12, 5, 0):
                        desk.top = top
                        self.assertEqual(desk.least_for(name, other), least_sizes(
                            desk.lattice, good_groups(desk.lattice, source), good_groups(desk.lattice, goal), top=top))
        self.assertEqual(desk.verdicts(), [])
        do_all(desk, ["ask none thing", "ask circle thing", "ask thing circle", "ask thing none"])
        self.assertEqual(desk.verdicts(), [("none", "thing", "rule"), ("circle", "thing", "block"), ("thing", "circle", "plans"),
                                           ("thing", "none", "block")])
        desk.undo()
        self.assertEqual(len(desk.verdicts()), 3)

    def test_book(self):
        desk = self.desk
        book = desk.book()
        self.assertIsInstance(book, KindBook)
        self.assertEqual([(name, book[name]) for name in book], [("thing", ("one", 0)), ("row", ("row", 0))])
        self.assertEqual((book.lattice.world.sizes, book.makes("row", "thing"), book.makes("thing", "row")), ((3,), True, False))
        # The book and the desk do not change with each other.
        desk.do("kind web = web(a)")
        desk.do("kind thing = hand(a)")
        self.assertEqual(([name for name in book], book["thing"]), (["thing", "row"], ("one", 0)))
        book["new"] = ("row", 0)
        self.assertEqual((list(desk), list(desk.book())), (["thing", "row", "web"], ["thing", "row", "web"]))

    def test_lists_and_tuples_that_were_taken_before(self):
        desk = self.desk
        taken = (desk.lines, desk.allowed, desk.questions, desk.verdicts(), desk.least_for("thing", "row"))
        kept = tuple(list(part) for part in taken)
        for part in taken[:3]:
            self.assertIsInstance(part, tuple)
        do_all(desk, ["help pick 3", "kind web = web(a)", "ask web web"])
        self.assertEqual(tuple(list(part) for part in taken), kept)
        desk.verdicts().clear()
        desk.least_for("thing", "row").clear()
        self.assertEqual((len(desk.verdicts()), len(desk.least_for("thing", "row"))), (3, 6))
        lines = ["help pick 4"]
        do_all(desk, lines)
        lines.clear()
        self.assertEqual(desk.lines[-1], "help pick 4")


if __name__ == "__main__":
    unittest.main()
