"""Tests of nonames.values (points 22 and 25 to 27)."""

import unittest
from nonames.errors import BadStructure, BadText
from nonames.values import fault_path, format_value, parse_structure, parse_value
from nonames.worlds import World
from slow import built_kinds, plain_kinds, slow_list
from slow_texts import slow_fault, spoilt
from slow_values import near, slow_path
from test_checking import BIG

WORLDS = [(0,), (3,), (1, 2)]
SIGNS = ["0", "5", "07", "00", "10", "(", ")", ",", "+", "-", "a", ".", ";"]
VALUES = [0, 7, 10 ** 40, (), (3,), (0, 1), ((), ()), ((0, 1), (3,), ()), (((((1,),),),), 2), ((0, (1, 2)), 10, ((),))]


class ValuesTest(unittest.TestCase):
    def refused(self, place, text):
        with self.assertRaises(BadText) as caught:
            parse_value(text)
        self.assertEqual((caught.exception.given, caught.exception.place), (text, place), text)

    def test_examples(self):
        world = World((3,))
        text = format_value(((0, 1), (3,), ()))
        self.assertEqual(
            [text, fault_path(world, ("web", 0), ((0, 1), (0, 3))), fault_path(world, ("lots", ("one", 0), 2), (2, 1))],
            ['((0,1),(3),())', (1, 1), (1,)])

    def test_format_value(self):
        for value, text in ((0, "0"), (120, "120"), ((), "()"), ((3,), "(3)"), ((0, (1, 2)), "(0,(1,2))"),
                            (((),), "(())"), (((0,), (), 5), "((0),(),5)")):
            self.assertEqual(format_value(value), text)
            self.assertEqual(format_value(value, spaced=False), text)
            self.assertEqual(format_value(value, spaced=True), text.replace(",", ", "))

    def test_there_and_back(self):
        deep = 4
        for _ in range(19):
            deep = (deep, ())
        for value in VALUES + [deep]:
            for spaced in (False, True):
                self.assertEqual(parse_value(format_value(value, spaced=spaced)), value)
            self.assertEqual(parse_value("  " + format_value(value).replace(",", "  ,") + " "), value)

    def test_parse_value(self):
        self.assertEqual(parse_value("(3)"), (3,))
        self.assertEqual(parse_value("3"), 3)
        self.assertEqual(parse_value("( 1,( ) , 0 )"), (1, (), 0))

    def test_places_in_spoilt_texts(self):
        for value in VALUES:
            for text in spoilt(format_value(value), SIGNS):
                place = slow_fault(text, "value")
                if place is None:
                    self.assertEqual(format_value(parse_value(text)), text.replace(" ", ""))
                else:
                    self.refused(place, text)

    def test_wrong_texts(self):
        for text in ("", "   ", "(", "(1", "(1,", "((1)", "(1,  "):
            self.refused(len(text), text)
        self.refused(3, "(1,)")
        self.refused(1, "(,1)")
        self.refused(3, "(1 2)")
        self.refused(2, "1 2")
        self.refused(2, "()()")
        self.refused(0, "01")
        self.refused(1, "(00)")
        self.refused(0, "-1")
        self.refused(0, ")")

    def test_parentheses(self):
        for levels in (19, 20, 21, 22):
            text = "(" * levels + ")" * levels
            if levels > 20:
                self.refused(20, text)
            else:
                self.assertEqual(format_value(parse_value(text)), text)
            self.assertEqual(slow_fault(text, "value"), 20 if levels > 20 else None)
        beside = "(" + ",".join(["(" * 19 + ")" * 19] * 3) + ")"
        self.assertEqual(format_value(parse_value(beside)), beside)
        late = "(" + "(" * 19 + ")" * 19 + "," + "(" * 20 + ")" * 20 + ")"
        self.refused(1 + 38 + 1 + 19, late)
        self.refused(2, "((," + "(" * 30)
        self.refused(20, "(" * 20 + "(")
        self.refused(20, "(" * 20)

    def test_fault_path_of_plain_and_built_kinds(self):
        for sizes in WORLDS:
            world = World(sizes)
            for kind in plain_kinds(len(sizes)) + built_kinds(len(sizes)):
                structures = slow_list(sizes, kind)
                for value in structures[:30]:
                    self.assertIsNone(fault_path(world, kind, value))
                chosen = structures[:2] + structures[-2:] + [0, ()]
                for value in sorted({other for value in chosen for other in near(value)}, key=repr):
                    self.assertEqual(fault_path(world, kind, value), slow_path(sizes, kind, value), (kind, value))

    def test_fault_path_of_kinds_with_more_than_a_hundred_structures(self):
        world = World((3,))
        webs, rows = slow_list((3,), ("web", 0)), slow_list((3,), ("row", 0))
        starts = [tuple(webs), (webs[3], tuple(rows[:3])), tuple(rows), tuple(webs[2:7]), (1, tuple(rows[:3]))]
        for kind, start in zip(BIG, starts):
            self.assertIsNone(fault_path(world, kind, start))
            for value in near(start):
                self.assertEqual(fault_path(world, kind, value), slow_path((3,), kind, value), (kind, value))

    def test_fault_paths(self):
        world = World((3,))
        one, web = ("one", 0), ("web", 0)
        either = ("either", one, web)
        for kind, value, path in (
                (one, 3, ()), (one, -1, ()), (one, (0,), ()), (("row", 0), (0, 1), ()), (("row", 0), (0, 0, 1), (1,)),
                (("row", 0), (0, (), 1), (1,)), (("row", 0), (3, 0, 0), (0,)), (web, ((0, 1), (1, 0)), (1, 1)),
                (web, ((0, 1), 1), (1,)), (web, ((0, 1), (0, 1)), (1, 1)), (web, ((1, 2), (0, 1)), (0, 0)),
                (("parts", 0, (1, 2)), ((0, 1), (1,)), (1, 0)), (("parts", 0, (1, 2)), ((0, 1, 2),), ()),
                (either, 5, ()), (either, (0,), ()), (either, (2, 0), (0,)), (either, ((), 0), (0,)),
                (either, (0, 3), (1,)), (either, (1, ((0, 1), (0, 3))), (1, 1, 1)), (either, (1, 0), (1,)),
                (("both", one, web), (3, ((2, 2),)), (0,)), (("both", one, web), (2, ((0, 0),)), (1, 0, 1)),
                (("both", one, web), (0, (), 0), ()), (("lots", one, 2), (1, 1), (1,)), (("lots", one, 2), (1, 3), (1,)),
                (("lots", one, 2), (1,), ()), (("lots", one, 0), (0,), ()), (("lots", web, 2), (((0, 1),), ()), (1,)),
                (("maps", one, one), (0, 1), ()), (("maps", one, one), (0, 1, 3), (2,)),
                (("maps", one, web), ((), ((0, 1), (9, 9)), 0), (1, 1, 0)), (("maps", one, one), (1, 1, 1), None),
                (("pairing", one, one), (1, 1, 3), (1,)), (("pairing", one, one), (1, 3, 1), (1,)),
                (("pairing", one, one), (2, 0, 2), (2,)), (("pairing", one, one), (2, 0, 1), None),
                (("pairing", one, ("named", 2)), (0, 1, 0), ()), (("pairing", one, ("named", 4)), (0, 1, 2), ()),
                (("maps", one, ("named", 0)), (0, 0, 0), (0,)), (("lots", either, 2), ((0, 1), (0, 1)), (1,)),
                (("both", ("both", one, ("lots", web, 2)), one), ((0, ((), ((0, 1), (2, 1)))), 9), (0, 1, 1, 1, 0))):
            self.assertEqual(fault_path(world, kind, value), path, (kind, value))

    def test_parse_structure(self):
        for sizes in WORLDS:
            world = World(sizes)
            for kind in plain_kinds(len(sizes)) + built_kinds(len(sizes)):
                for value in slow_list(sizes, kind)[:10]:
                    self.assertEqual(parse_structure(world, kind, format_value(value, spaced=True)), value)
        big = tuple(slow_list((3,), ("web", 0)))
        self.assertEqual(parse_structure(World((3,)), BIG[0], format_value(big)), big)

    def test_parse_structure_refuses(self):
        world = World((3,))
        for kind, text, value in ((("one", 0), "3", 3), (("one", 0), "(1)", (1,)), (("row", 0), "(0,1,1)", (0, 1, 1)),
                                  (("lots", ("one", 0), 2), " (2, 1) ", (2, 1)), (("named", 0), "0", 0),
                                  (("maps", ("web", 0), ("web", 0)), "(((0,1)))", (((0, 1),),))):
            with self.assertRaises(BadStructure) as caught:
                parse_structure(world, kind, text)
            self.assertEqual(caught.exception.given, value)
        for text, place in (("(0,1", 4), ("(0,1,1)2", 7), ("", 0), ("(0,,1)", 3)):
            with self.assertRaises(BadText) as caught:
                parse_structure(world, ("row", 0), text)
            self.assertEqual((caught.exception.given, caught.exception.place), (text, place))


if __name__ == "__main__":
    unittest.main()
