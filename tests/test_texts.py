"""Tests of nonames.texts (points 21 to 24)."""

import unittest
from itertools import product
from nonames.errors import BadKind, BadText, BadWorld
from nonames.kinds import check_kind, kind_depth
from nonames.texts import format_kind, format_world, parse_kind, parse_world, tokens_of
from nonames.worlds import World
from slow import built_kinds, plain_kinds
from slow_texts import slow_fault, slow_tokens, spoilt

SIGNS = ["a", "b", "one", "lots", "kind", "0", "7", "07", "00", "12", "(", ")", ",", "+", "-", "A", ";", "_", "~"]
KIND_TEXTS = ["named(3)", "one(a)", "lot(b,2)", "parts(a,1+2+2)", "lots(web(b),2)", "both(one(a),lots(web(b),2))",
              "maps(pairing(row(a),round(b)),either(tree(a),hand(a)))"]


def deep_text(levels):
    """A kind's text with so many parentheses inside one another."""
    return "lots(" * (levels - 1) + "one(a)" + ",1)" * (levels - 1)


class TextsTest(unittest.TestCase):
    def refused(self, place, function, text, *more):
        with self.assertRaises(BadText) as caught:
            function(text, *more)
        self.assertEqual((caught.exception.given, caught.exception.place), (text, place), text)

    def test_examples(self):
        kind = parse_kind("both(one(a), lots( web(b),2))", 2)
        self.assertEqual(
            [kind, format_kind(kind), format_kind(kind, spaced=True)],
            [('both', ('one', 0), ('lots', ('web', 1), 2)), 'both(one(a),lots(web(b),2))',
             'both(one(a), lots(web(b), 2))'])
        self.refused(6, parse_kind, "lot(a 2)", 1)

    def test_tokens(self):
        self.assertEqual(list(tokens_of("")), [])
        self.assertEqual(list(tokens_of("   ")), [])
        self.assertEqual(list(tokens_of("ab12cd")), [(0, "ab"), (2, "12"), (4, "cd")])
        self.assertEqual(list(tokens_of(" ab  c 0 07")), [(1, "ab"), (5, "c"), (7, "0"), (9, "07")])
        self.assertEqual(list(tokens_of("aBc((--")),
                         [(0, "a"), (1, "B"), (2, "c"), (3, "("), (4, "("), (5, "-"), (6, "-")])
        self.assertEqual(list(tokens_of("a\nb \n")), [(0, "a"), (1, "\n"), (2, "b"), (4, "\n")])
        self.assertEqual(list(tokens_of("az09`{/:")), [(0, "az"), (2, "09"), (4, "`"), (5, "{"), (6, "/"), (7, ":")])

    def test_tokens_of_many_texts(self):
        for length in range(6):
            for signs in product("ab1 (Z", repeat=length):
                text = "".join(signs)
                self.assertEqual(list(tokens_of(text)), slow_tokens(text))
        every = "".join(chr(code) for code in range(32, 127))
        self.assertEqual(list(tokens_of(every + every)), slow_tokens(every + every))

    def test_format_kind(self):
        for kind, text in ((("named", 0), "named(0)"), (("one", 1), "one(b)"), (("lot", 0, 9), "lot(a,9)"),
                           (("row", 0), "row(a)"), (("round", 1), "round(b)"), (("hand", 0), "hand(a)"),
                           (("parts", 1, (1, 1, 2)), "parts(b,1+1+2)"), (("parts", 0, (4,)), "parts(a,4)"),
                           (("web", 1), "web(b)"), (("tree", 0), "tree(a)"),
                           (("either", ("one", 0), ("one", 1)), "either(one(a),one(b))"),
                           (("lots", ("lots", ("one", 0), 1), 2), "lots(lots(one(a),1),2)"),
                           (("maps", ("named", 2), ("row", 0)), "maps(named(2),row(a))"),
                           (("pairing", ("row", 0), ("row", 1)), "pairing(row(a),row(b))"),
                           (("both", ("lot", 0, 1), ("named", 9)), "both(lot(a,1),named(9))")):
            self.assertEqual(format_kind(kind), text)
            self.assertEqual(format_kind(kind, spaced=False), text)
            self.assertEqual(format_kind(kind, spaced=True), text.replace(",", ", "))

    def test_kinds_there_and_back(self):
        for kind in plain_kinds(2) + built_kinds(2):
            for spaced in (False, True):
                self.assertEqual(parse_kind(format_kind(kind, spaced=spaced), 2), kind)
            wide = " ".join(token for _, token in slow_tokens(format_kind(kind)))
            self.assertEqual(parse_kind("  " + wide + " ", 2), kind)

    def test_places_in_spoilt_kinds(self):
        many = 0
        for text in KIND_TEXTS:
            for other in spoilt(text, SIGNS):
                place = slow_fault(other, "kind")
                if place is None:
                    many += 1
                    try:
                        check_kind(parse_kind(other, 2), 2)
                    except BadKind:
                        pass
                else:
                    self.refused(place, parse_kind, other, 2)
        self.assertGreater(many, 50)

    def test_texts_that_end_too_early(self):
        for text in ("", "  ", "one", "one ", "one(", "one(a", "one(a  ", "lot(a,", "parts(a,1+ ", "both(one(a),"):
            self.refused(len(text), parse_kind, text, 1)

    def test_wrong_tokens(self):
        self.refused(6, parse_kind, "one(a))", 1)
        self.refused(7, parse_kind, "one(a) one(a)", 1)
        self.refused(4, parse_kind, "one(c)", 1)
        self.refused(4, parse_kind, "one(ab)", 1)
        self.refused(1, parse_kind, " One(a)", 1)
        self.refused(0, parse_kind, "ones(a)", 1)
        self.refused(6, parse_kind, "lot(a,07)", 1)
        self.refused(6, parse_kind, "named(00)", 1)
        self.refused(6, parse_kind, "named(-1)", 1)
        self.refused(8, parse_kind, "parts(a,(1))", 1)
        self.refused(5, parse_kind, "lot(a2)", 1)
        self.refused(7, parse_kind, "named(1+0)", 1)
        self.refused(8, parse_kind, "named(1 0)", 1)

    def test_parentheses(self):
        with self.assertRaises(BadKind):
            parse_kind(deep_text(20), 1)
        self.refused(19 * 5 + 5 + 3, parse_kind, deep_text(21), 1)
        self.refused(20 * 5 + 4, parse_kind, deep_text(22), 1)
        # Beside one another there may be as many as one likes.
        wide = "both(" + deep_text(19) + "," + deep_text(19) + ")"
        with self.assertRaises(BadKind):
            parse_kind(wide, 1)
        late = "both(" + deep_text(19) + "," + deep_text(20) + ")"
        self.refused(len("both(" + deep_text(19) + ",") + 18 * 5 + 5 + 3, parse_kind, late, 1)
        # A token before them that cannot stand there comes first.
        self.refused(5, parse_kind, "lots(" + "," + deep_text(25), 1)
        for text in (deep_text(20), deep_text(21), wide, late):
            self.assertEqual(slow_fault(text, "kind") is None, text in (deep_text(20), wide))

    def bad_kind(self, part, text, sorts):
        with self.assertRaises(BadKind) as caught:
            parse_kind(text, sorts)
        self.assertEqual(caught.exception.given, part)

    def test_kinds_that_are_read_but_wrong(self):
        self.bad_kind(("named", 10), "named(10)", 1)
        self.bad_kind(("named", 12345678901234567890), "named(12345678901234567890)", 1)
        self.bad_kind(("one", 1), "one(b)", 1)
        self.assertEqual(parse_kind("one(b)", 2), ("one", 1))
        self.bad_kind(("parts", 0, (2, 1)), "parts(a,2+1)", 1)
        self.bad_kind(("parts", 0, (0,)), "parts(a,0)", 1)
        self.bad_kind(("parts", 0, (5,)), "parts(a,5)", 1)
        self.bad_kind(("parts", 0, (1, 1, 1, 1, 1)), "parts(a,1+1+1+1+1)", 1)
        self.bad_kind(("lots", ("one", 0), 10), "lots(one(a),10)", 1)
        self.bad_kind(("lot", 0, 10), "both(lot(a,10),one(b))", 1)
        self.bad_kind(("one", 1), "both(lot(a,1),one(b))", 1)
        self.bad_kind(("one", 0), deep_text(7), 1)
        self.assertEqual(kind_depth(parse_kind(deep_text(6), 1)), 6)
        # The whole text is read first.
        self.refused(9, parse_kind, "named(10))", 1)
        self.refused(11, parse_kind, "both(one(b)", 1)

    def test_format_world(self):
        self.assertEqual(format_world(World((3,))), "3")
        self.assertEqual(format_world(World([2, 1])), "2+1")
        self.assertEqual(format_world(World((0, 4))), "0+4")

    def test_worlds_there_and_back(self):
        for first in range(5):
            self.assertEqual(parse_world(f"{first}").sizes, (first,))
            for second in range(4 if first < 4 else 2):
                world = parse_world(f" {first} +{second} ")
                self.assertIsInstance(world, World)
                self.assertEqual(world.sizes, (first, second))
                self.assertEqual(parse_world(format_world(world)).sizes, (first, second))

    def test_places_in_spoilt_worlds(self):
        for text in ("3", "2+1", "1+2+3"):
            for other in spoilt(text, SIGNS):
                place = slow_fault(other, "sizes")
                if place is not None:
                    self.refused(place, parse_world, other)
                else:
                    sizes = tuple(int(word) for word in other.split("+"))
                    try:
                        self.assertEqual(parse_world(other).sizes, sizes)
                    except BadWorld as error:
                        self.assertEqual(error.given, sizes)

    def test_bad_worlds(self):
        for text, sizes in (("5", (5,)), ("1+1+1", (1, 1, 1)), ("4+2", (4, 2)), ("99999999999999", (99999999999999,)),
                            ("0+0+0", (0, 0, 0))):
            with self.assertRaises(BadWorld) as caught:
                parse_world(text)
            self.assertEqual(caught.exception.given, sizes)
        # The whole text is read first.
        self.refused(2, parse_world, "5 a")
        self.refused(2, parse_world, "5+")
        self.refused(0, parse_world, "")
        self.refused(1, parse_world, " ,")
        self.refused(2, parse_world, "3+01")
        self.refused(0, parse_world, "(3)")


if __name__ == "__main__":
    unittest.main()
