"""Tests of nonames.moving (point 12)."""

import unittest
from nonames.listing import list_structures
from nonames.moving import rename_structure
from nonames.worlds import World
from slow import built_kinds, plain_kinds, slow_list, slow_rename

WORLDS = [(0,), (1,), (2,), (3,), (4,), (0, 2), (2, 1), (2, 2), (3, 2)]


class MovingTest(unittest.TestCase):
    def moves(self, sizes, kind, structure, row, expected):
        world = World(sizes)
        self.assertEqual(rename_structure(world, kind, structure, world.number(row)), expected)

    def test_example(self):
        self.moves((3,), ("hand", 0), 0, (1, 0, 2), 1)
        self.moves((3,), ("round", 0), (0, 1, 2), (1, 0, 2), (0, 2, 1))

    def test_named(self):
        for row in ((0, 1, 2), (2, 0, 1), (1, 0, 2)):
            self.moves((3,), ("named", 3), 2, row, 2)

    def test_plain_kinds_by_hand(self):
        turn = (1, 2, 3, 0)
        self.moves((4,), ("one", 0), 3, turn, 0)
        self.moves((4,), ("lot", 0, 2), (0, 3), turn, (0, 1))
        self.moves((4,), ("row", 0), (2, 0, 3, 1), turn, (3, 1, 0, 2))
        self.moves((4,), ("round", 0), (0, 2, 1, 3), turn, (0, 1, 3, 2))
        self.moves((4,), ("hand", 0), 0, turn, 1)
        self.moves((4,), ("hand", 0), 1, turn, 0)
        self.moves((4,), ("hand", 0), 1, (1, 0, 3, 2), 1)
        self.moves((4,), ("parts", 0, (1, 3)), ((0, 1, 2), (3,)), turn, ((0,), (1, 2, 3)))
        self.moves((4,), ("web", 0), ((0, 3), (1, 2)), turn, ((0, 1), (2, 3)))
        self.moves((4,), ("tree", 0), ((0, 1), (0, 2), (0, 3)), turn, ((0, 1), (1, 2), (1, 3)))

    def test_hand_looks_at_its_own_sort(self):
        row = (1, 0, 2, 3)
        self.moves((2, 2), ("hand", 0), 0, row, 1)
        self.moves((2, 2), ("hand", 1), 0, row, 0)
        self.moves((2, 2), ("hand", 1), 1, (0, 1, 3, 2), 0)
        self.moves((2, 2), ("hand", 0), 1, (0, 1, 3, 2), 1)

    def test_built_kinds_by_hand(self):
        one, row = ("one", 0), (1, 2, 0)
        self.moves((3,), ("either", one, ("named", 3)), (0, 2), row, (0, 0))
        self.moves((3,), ("either", one, ("named", 3)), (1, 2), row, (1, 2))
        self.moves((3,), ("both", one, ("lot", 0, 2)), (0, (1, 2)), row, (1, (0, 2)))
        self.moves((3,), ("lots", one, 2), (1, 2), row, (0, 2))
        # 0 -> 2, 1 -> 0, 2 -> 1 becomes 1 -> 0, 2 -> 1, 0 -> 2.
        self.moves((3,), ("maps", one, one), (2, 0, 1), row, (2, 0, 1))
        self.moves((3,), ("maps", one, one), (2, 2, 1), row, (2, 0, 0))
        self.moves((3,), ("maps", one, ("named", 2)), (1, 0, 0), row, (0, 1, 0))
        self.moves((3,), ("maps", ("named", 2), one), (0, 2), row, (1, 0))
        self.moves((3,), ("pairing", one, ("named", 3)), (0, 1, 2), row, (2, 0, 1))

    def test_plain_kinds_in_many_worlds(self):
        self.compare(WORLDS, plain_kinds)

    def test_built_kinds_in_many_worlds(self):
        self.compare([sizes for sizes in WORLDS if sum(sizes) < 5 and max(sizes) < 4], built_kinds)

    def compare(self, worlds, kinds):
        for sizes in worlds:
            world = World(sizes)
            for kind in kinds(len(sizes)):
                for value in slow_list(sizes, kind)[:40]:
                    for number, row in enumerate(world.renamings):
                        self.assertEqual(rename_structure(world, kind, value, number),
                                         slow_rename(sizes, kind, value, row), (sizes, kind, value, row))

    def test_each_kind_keeps_its_structures(self):
        for sizes in ((3,), (2, 2)):
            world = World(sizes)
            for kind in plain_kinds(len(sizes)) + built_kinds(len(sizes)):
                values = list_structures(world, kind)
                for number in range(world.order):
                    self.assertEqual(sorted(rename_structure(world, kind, value, number) for value in values), values)

    def test_kind_with_more_than_a_hundred_structures(self):
        web = ("web", 0)
        webs = slow_list((3,), web)
        row = (1, 2, 0)
        value = tuple(webs[(3 * at + 1) % 8] for at in range(8))
        self.moves((3,), ("maps", web, web), value, row, slow_rename((3,), ("maps", web, web), value, row))
        rows = slow_list((4,), ("row", 0))
        turn = (1, 2, 3, 0)
        kind = ("maps", ("row", 0), ("one", 0))
        value = tuple(thing % 4 for thing in range(24))
        self.moves((4,), kind, value, turn, slow_rename((4,), kind, value, turn))
        kind = ("pairing", ("row", 0), ("row", 0))
        value = tuple(rows[(5 * at + 2) % 24] for at in range(24))
        self.moves((4,), kind, value, turn, slow_rename((4,), kind, value, turn))
        kind = ("lots", ("row", 0), 5)
        self.moves((4,), kind, tuple(rows[3:8]), turn, slow_rename((4,), kind, tuple(rows[3:8]), turn))
        kind = ("both", ("row", 0), ("row", 0))
        self.moves((4,), kind, (rows[3], rows[9]), turn, slow_rename((4,), kind, (rows[3], rows[9]), turn))

    def test_inner_kind_somewhat_beyond_the_limit(self):
        maps = ("maps", ("one", 0), ("web", 0))
        webs = slow_list((3,), ("web", 0))
        answers = (webs[1], webs[6], webs[4])
        row = (2, 0, 1)
        moved = slow_rename((3,), maps, answers, row)
        self.moves((3,), ("both", maps, ("one", 0)), (answers, 1), row, (moved, 0))
        self.moves((3,), ("lots", maps, 1), (answers,), row, (moved,))
        self.moves((3,), ("either", ("one", 0), maps), (1, answers), row, (1, moved))
        self.moves((3,), ("maps", ("named", 1), maps), (answers,), row, (moved,))

    def test_six_levels(self):
        kind = ("one", 0)
        for tag in ("both", "either", "maps"):
            kind = (tag, ("named", 1), kind)
        kind = ("lots", ("pairing", ("named", 1), kind), 2)
        world = World((3,))
        for value in list_structures(world, kind):
            for number, row in enumerate(world.renamings):
                self.assertEqual(rename_structure(world, kind, value, number), slow_rename((3,), kind, value, row))

    def test_renaming_zero_changes_nothing(self):
        for kind in plain_kinds(2) + built_kinds(2):
            for value in slow_list((2, 2), kind):
                self.assertEqual(rename_structure(World((2, 2)), kind, value, 0), value)


if __name__ == "__main__":
    unittest.main()
