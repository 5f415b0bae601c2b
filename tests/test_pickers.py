"""Tests of nonames.pickers (points 84 to 86)."""

import unittest
from nonames.families import Family
from nonames.lattices import Lattice
from nonames.pickers import DrawnPicker, Picker, StubbornPicker
from nonames.worlds import World


class LastPicker(Picker):
    def pick(self, family):
        return tuple(family.answers[-1] for _ in family.places)


class FailingPicker(Picker):
    def pick(self, family):
        raise KeyError(family)


class PickerTest(unittest.TestCase):
    def setUp(self):
        self.lattice = Lattice(World((3,)))
        self.two = Family(self.lattice, 5, 4, ("pick", 3), (0,))
        self.three = Family(self.lattice, 5, 1, ("pick", 2), (0,))
        self.made = Family(self.lattice, 5, 1, ("make", 3, ("round", 0)), (0, 1))

    def test_least_answers(self):
        picker = Picker()
        self.assertEqual(picker.asked, 0)
        self.assertEqual((picker.pick(self.two), picker.pick(self.three)), ((0, 0), (0, 0, 0)))
        self.assertEqual(picker.pick(self.made), ((0, 1, 2),) * 3)
        self.assertEqual(picker.asked, 0)
        self.assertEqual((picker(self.two), picker.asked), ((0, 0), 1))
        self.assertEqual((picker(self.made), picker.asked), (((0, 1, 2),) * 3, 2))
        picker.pick(self.two)
        self.assertEqual(picker.asked, 2)

    def test_picker_of_ones_own(self):
        picker = LastPicker()
        self.assertEqual((picker(self.two), picker(self.three), picker.asked), ((2, 2), (1, 1, 1), 2))
        failing = FailingPicker()
        with self.assertRaises(KeyError):
            failing(self.two)
        self.assertEqual(failing.asked, 0)

    def test_classes(self):
        self.assertEqual((DrawnPicker.__bases__, StubbornPicker.__bases__), ((Picker,), (Picker,)))
        for own in (Picker, DrawnPicker, StubbornPicker):
            self.assertIn("pick", vars(own))
        self.assertEqual((DrawnPicker(7).seed, DrawnPicker(7).asked), (7, 0))
        self.assertEqual((StubbornPicker(4).chosen, StubbornPicker(4).asked), (4, 0))

    def test_drawn_by_the_number(self):
        self.assertEqual([DrawnPicker(number).pick(self.two) for number in range(11)],
                         [(0, 0), (1, 0), (2, 0), (0, 1), (1, 1), (2, 1), (0, 2), (1, 2), (2, 2), (0, 0), (1, 0)])
        self.assertEqual([DrawnPicker(number).pick(self.three) for number in (0, 1, 2, 6, 7, 8)],
                         [(0, 0, 0), (1, 0, 0), (0, 1, 0), (0, 1, 1), (1, 1, 1), (0, 0, 0)])
        first, second = (0, 1, 2), (0, 2, 1)
        self.assertEqual(DrawnPicker(5).pick(self.made), (second, first, second))

    def test_drawn_by_very_large_numbers(self):
        self.assertEqual(DrawnPicker(10 ** 60 + 5).pick(self.two), tuple((10 ** 60 + 5) // 3 ** k % 3 for k in (0, 1)))
        self.assertEqual(DrawnPicker(2 ** 200 + 4).pick(self.three), (0, 0, 1))
        many = Family(self.lattice, 5, 0, ("pick", 12), (0,) * 12)
        number = 12 ** 6 * 77 + 12 ** 5 * 3 + 11
        self.assertEqual(DrawnPicker(number).pick(many), (11, 0, 0, 0, 0, 3))

    def test_drawn_in_base_one(self):
        one = Family(self.lattice, 5, 1, ("pick", 1), (1,))
        for number in (0, 1, 2, 10 ** 40):
            self.assertEqual(DrawnPicker(number).pick(one), (0, 0, 0))
        self.assertEqual(DrawnPicker(3).pick(Family(self.lattice, 5, 5, ("make", 0, ("row", 0)), ())), ((),))

    def test_drawn_after_some_families(self):
        picker = DrawnPicker(4)
        self.assertEqual([picker(self.two), picker(self.two), picker(self.three), picker.pick(self.two), picker.pick(self.two),
                          picker.asked, picker.seed],
                         [(1, 1), (2, 1), (0, 1, 1), (1, 2), (1, 2), 3, 4])

    def test_stubborn(self):
        # Group 2 is kept, group 4 is not, and the stand does not hold group 3.
        self.assertEqual(StubbornPicker(2).pick(self.two), (0, 1))
        self.assertEqual(self.two.new_stand((0, 1)), 2)
        self.assertEqual(StubbornPicker(4).pick(self.two), (0, 0))
        small = Family(self.lattice, 4, 4, ("pick", 3), (0,))
        self.assertEqual(StubbornPicker(3).pick(small), (0,))
        self.assertEqual(StubbornPicker(0).pick(small), (0,))
        whole = Family(self.lattice, 5, 5, ("pick", 3), (1,))
        self.assertEqual([StubbornPicker(number).pick(whole) for number in range(6)], [(0,), (0,), (2,), (1,), (0,), (0,)])
        picker = StubbornPicker(3)
        self.assertEqual((picker(whole), picker(small), picker.asked), ((1,), (0,), 2))

    def test_stubborn_keeps_each_group_that_is_kept(self):
        for family in (self.two, self.three, self.made):
            for number in range(6):
                picks = StubbornPicker(number).pick(family)
                kept = family.picking_for(number)
                self.assertEqual(picks, Picker().pick(family) if kept is None else kept)
                self.assertIn(picks, family)


if __name__ == "__main__":
    unittest.main()
