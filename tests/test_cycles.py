"""Tests of nonames.cycles (points 22 and 28 to 30)."""

import unittest
from itertools import product
from nonames.cycles import cycles_of, format_group, format_renaming, group_basis, parse_group, parse_renaming
from nonames.errors import BadText
from nonames.groups import all_groups, generated
from nonames.worlds import World
from slow import slow_closed
from slow_texts import cycle_texts, joined, slow_renaming, slow_tokens, spoilt

WORLDS = [(0,), (1,), (2,), (3,), (4,), (0, 0), (2, 1), (1, 2), (2, 2), (3, 2), (1, 4), (3, 3)]
SIGNS = ["0", "1", "2", "3", "4", "00", "01", "10", "(", ")", ",", ";", "-", "a"]


def slow_cycles(renaming):
    """All cycles of at least two things: the lots of things that lead to one another, walked through."""
    found = []
    for start in range(len(renaming)):
        row = [start]
        for _ in renaming:
            row.append(renaming[row[-1]])
        row = row[:row.index(start, 1)]
        if len(row) > 1 and sorted(row)[0] == start:
            found.append(tuple(row))
    return found


class CyclesTest(unittest.TestCase):
    def refused(self, place, function, world, text):
        with self.assertRaises(BadText) as caught:
            function(world, text)
        self.assertEqual((caught.exception.given, caught.exception.place), (text, place), (world.sizes, text))

    def test_examples(self):
        world = World((3,))
        self.assertEqual(
            [format_renaming(world, 3), format_group(world, (0, 1, 2, 3, 4, 5)), parse_group(world, "(2 0 1)")],
            ['(0 1 2)', '(1 2); (0 1)', (0, 3, 4)])

    def test_cycles_of_all_renamings(self):
        for sizes in WORLDS:
            world = World(sizes)
            for number, renaming in enumerate(world.renamings):
                self.assertEqual(list(cycles_of(world, number)), slow_cycles(renaming))

    def test_cycles(self):
        world = World((2, 2))
        self.assertEqual(list(cycles_of(world, 0)), [])
        self.assertEqual(list(cycles_of(world, world.number((1, 0, 3, 2)))), [(0, 1), (2, 3)])
        self.assertEqual(list(cycles_of(World((4,)), World((4,)).number((2, 3, 1, 0)))), [(0, 2, 1, 3)])

    def test_format_renaming(self):
        world = World((4,))
        for row, text in (((0, 1, 2, 3), "()"), ((1, 0, 3, 2), "(0 1)(2 3)"), ((2, 3, 1, 0), "(0 2 1 3)"),
                          ((0, 3, 2, 1), "(1 3)"), ((3, 0, 2, 1), "(0 3 1)")):
            self.assertEqual(format_renaming(world, world.number(row)), text)
        self.assertEqual(format_renaming(World((0,)), 0), "()")

    def test_renamings_there_and_back(self):
        for sizes in WORLDS:
            world = World(sizes)
            for number in range(world.order):
                text = format_renaming(world, number)
                self.assertEqual(parse_renaming(world, text), number)
                self.assertEqual(parse_renaming(world, "  " + text.replace("(", "( ").replace(")", "  ) ")), number)

    def test_parse_renaming(self):
        world = World((4,))
        self.assertEqual(parse_renaming(world, "(2 0 1)"), world.number((1, 2, 0, 3)))
        self.assertEqual(parse_renaming(world, "()(3)()(2 0)"), world.number((2, 1, 0, 3)))
        self.assertEqual(parse_renaming(world, "(3)(1)"), 0)
        self.assertEqual(parse_renaming(World((0,)), "()"), 0)

    def test_all_short_texts(self):
        for sizes in ((0,), (1,), (3,), (2, 1), (1, 2)):
            world = World(sizes)
            rows = cycle_texts(sizes, 7)
            starts = {row[:end] for row in rows for end in range(len(row) + 1)}
            whole = set(rows)
            signs = ["(", ")", "0", "1", "2", "3", "00", ","]
            for length in range(6):
                for row in product(signs, repeat=length):
                    text = " ".join(row)
                    wrong = [at for at in range(length) if row[:at + 1] not in starts]
                    if wrong:
                        self.refused(slow_tokens(text)[wrong[0]][0], parse_renaming, world, text)
                    elif row not in whole:
                        self.refused(len(text), parse_renaming, world, text)
                    else:
                        self.assertEqual(parse_renaming(world, text), world.number(slow_renaming(sizes, row)))

    def test_wrong_renamings(self):
        world = World((3,))
        self.refused(3, parse_renaming, world, "(0 0)")
        self.refused(6, parse_renaming, world, "(0 1)(1 2)")
        self.refused(1, parse_renaming, world, "(3)")
        self.refused(1, parse_renaming, world, "(01)")
        self.refused(1, parse_renaming, world, "(012)")
        self.refused(2, parse_renaming, world, "(0,1)")
        self.refused(1, parse_renaming, world, "((0 1))")
        self.refused(6, parse_renaming, world, "(0 1) 2")
        self.refused(5, parse_renaming, world, "(0 1);(1 2)")
        self.refused(0, parse_renaming, world, "0")
        self.refused(5, parse_renaming, world, "(0 1 ")
        self.refused(0, parse_renaming, world, "")
        self.refused(2, parse_renaming, world, "  ")
        self.refused(1, parse_renaming, world, "(99999999999999999999)")
        # A thing of the other sort may not stand in the same cycle, but in the next one.
        world = World((2, 1))
        self.refused(3, parse_renaming, world, "(1 2)")
        self.assertEqual(parse_renaming(world, "(1)(2)"), 0)
        self.refused(1, parse_renaming, World((0,)), "(0)")

    def test_spoilt_groups(self):
        for sizes, text in (((3,), "(0 1); (1 2)(0)"), ((2, 2), "(0 1)(2 3);()")):
            world = World(sizes)
            whole = set(cycle_texts(sizes, 12))
            starts = {row[:end] for row in whole for end in range(len(row) + 1)}
            for other in spoilt(text, SIGNS):
                tokens = slow_tokens(other)
                rows = [()]
                place = None
                for at, token in tokens:
                    if token == ";" and rows[-1] in whole:
                        rows.append(())
                    elif rows[-1] + (token,) in starts:
                        rows[-1] += (token,)
                    else:
                        place = at
                        break
                if place is None and rows[-1] in whole:
                    numbers = [world.number(slow_renaming(sizes, row)) for row in rows]
                    self.assertEqual(parse_group(world, other), slow_closed(world, numbers))
                else:
                    self.refused(len(other) if place is None else place, parse_group, world, other)

    def test_group_basis(self):
        world = World((3,))
        for group, basis in (((0,), ()), ((0, 1), (1,)), ((0, 3, 4), (3,)), ((0, 1, 2, 3, 4, 5), (1, 2))):
            self.assertEqual(group_basis(world, group), basis)

    def test_basis_of_all_groups(self):
        for sizes in WORLDS:
            world = World(sizes)
            for group in all_groups(world):
                basis = group_basis(world, group)
                self.assertIsInstance(basis, tuple)
                taken = []
                for member in group:
                    if member not in slow_closed(world, taken):
                        taken.append(member)
                self.assertEqual(list(basis), taken)
                self.assertEqual(generated(world, basis), group)

    def test_groups_there_and_back(self):
        for sizes in WORLDS:
            world = World(sizes)
            for group in all_groups(world):
                text = format_group(world, group)
                words = [format_renaming(world, number) for number in group_basis(world, group)]
                self.assertEqual(text, "; ".join(words) if len(group) > 1 else "()")
                self.assertEqual(parse_group(world, text), group)
                self.assertEqual(parse_group(world, joined(token for _, token in slow_tokens(text))), group)

    def test_parse_group(self):
        world = World((4,))
        self.assertEqual(parse_group(world, "()"), (0,))
        self.assertEqual(parse_group(world, "();()"), (0,))
        self.assertEqual(parse_group(world, "(0 1);(0 1)(2 3)"),
                         tuple(sorted(world.number(row) for row in
                                      ((0, 1, 2, 3), (1, 0, 2, 3), (0, 1, 3, 2), (1, 0, 3, 2)))))
        self.assertEqual(len(parse_group(world, "(0 1 2 3);(0 1)")), 24)
        for text, place in ((";", 0), ("();", 3), ("(0 1);;", 6), ("(0 1)(0 2)", 6), ("(0 1);(0 1 0)", 11), ("", 0),
                            ("(0 1) ; ", 8), ("(0 1);0", 6), ("(0 1),(1 2)", 5)):
            self.refused(place, parse_group, world, text)


if __name__ == "__main__":
    unittest.main()
