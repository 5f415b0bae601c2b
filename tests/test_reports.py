"""Tests of nonames.reports (point 156)."""

import unittest
from nonames.desks import Desk, do_all
from nonames.plans import find_plan
from nonames.reports import report, size_report
from nonames.rulecounts import count_rules

HEAD = "from         to           way   detail"
SIZE_HEAD = "from         to           sizes"


class ReportTest(unittest.TestCase):
    def setUp(self):
        self.desk = Desk((3,))
        do_all(self.desk, ["kind circle = round(a)", "kind thing = one(a)", "kind abcdefghijkl = row(a)"])

    def test_example(self):
        desk = Desk((3,))
        do_all(desk, ["kind circle = round(a)", "kind thing = one(a)", "ask circle thing"])
        self.assertEqual([report(desk), size_report(desk)],
                         ['from         to           way   detail\ncircle       thing        block (0 1 2)\n  0 of 1',
                          'from         to           sizes\ncircle       thing            4 3, 6, 9, 12'])

    def test_without_questions(self):
        for desk in (Desk((0,)), self.desk):
            self.assertEqual((report(desk), size_report(desk)), (HEAD + "\n  0 of 0", SIZE_HEAD))

    def test_each_word_and_long_names(self):
        do_all(self.desk, ["help pick 3", "ask abcdefghijkl circle", "ask circle thing", "ask thing abcdefghijkl",
                           "ask circle abcdefghijkl", "ask abcdefghijkl abcdefghijkl"])
        self.assertEqual(report(self.desk), "\n".join([
            HEAD,
            "abcdefghijkl circle       rule  2",
            "circle       thing        plans 1",
            "thing        abcdefghijkl block (1 2)",
            "circle       abcdefghijkl plans 1",
            "abcdefghijkl abcdefghijkl rule  6",
            "  4 of 5"]))
        self.assertEqual(size_report(self.desk), "\n".join([
            SIZE_HEAD,
            "abcdefghijkl circle           1 nothing",
            "circle       thing            4 3, 6, 9, 12",
            "thing        abcdefghijkl     6 2, 4, 6, 8, 10, 12",
            "circle       abcdefghijkl     4 3, 6, 9, 12",
            "abcdefghijkl abcdefghijkl     1 nothing"]))
        self.desk.undo()
        self.assertTrue(report(self.desk).endswith("\n  3 of 4"))

    def test_several_rows_of_several_plans(self):
        do_all(self.desk, ["help pick 2", "help pick 3", "kind unit = named(1)", "kind web = web(a)", "ask unit abcdefghijkl",
                           "ask web abcdefghijkl"])
        lattice = self.desk.lattice
        many = len(find_plan(lattice, 5, (0,), helpers=self.desk.allowed))
        self.assertEqual(report(self.desk).split("\n")[1:3], ["unit         abcdefghijkl plans " + str(many),
                                                             "web          abcdefghijkl plans " + str(2 * many + 2)])
        self.assertEqual(size_report(self.desk).split("\n")[1],
                         "unit         abcdefghijkl    10 6, 12, 2+3, 2+9, 3+4, 3+8, 3+10, 4+9, 8+9, 9+10")

    def test_blocks(self):
        do_all(self.desk, ["kind none = named(0)", "kind unit = named(1)", "ask thing none", "ask unit thing", "ask unit none",
                           "ask none none"])
        self.assertEqual(report(self.desk), "\n".join([
            HEAD,
            "thing        none         block ()",
            "unit         thing        block (0 1 2)",
            "unit         none         block ()",
            "none         none         rule  1",
            "  1 of 4"]))
        self.assertEqual(size_report(self.desk), "\n".join([
            SIZE_HEAD,
            "thing        none             0 none",
            "unit         thing            4 3, 6, 9, 12",
            "unit         none             0 none",
            "none         none             1 nothing"]))
        # A group whose basis has two renamings.
        desk = Desk((4,))
        do_all(desk, ["kind pairs = parts(a,2+2)", "kind unit = named(1)", "help pick 2", "help pick 3", "stop 0", "ask unit pairs"])
        self.assertEqual(report(desk).split("\n")[1:], ["unit         pairs        plans 10", "  1 of 1"])
        do_all(desk, ["stop 0", "kind even = parts(a,1+3)", "ask unit even"])
        self.assertEqual(report(desk).split("\n")[2:], ["unit         even         block (0 1)(2 3)", "  0 of 2"])

    def test_top_that_was_set(self):
        do_all(self.desk, ["ask circle thing", "ask circle abcdefghijkl", "ask abcdefghijkl thing"])
        self.desk.top = 6
        self.assertEqual(size_report(self.desk).split("\n")[1:], [
            "circle       thing            2 3, 6", "circle       abcdefghijkl     2 3, 6", "abcdefghijkl thing            1 nothing"])
        self.desk.set_top(2)
        self.assertEqual(size_report(self.desk).split("\n")[1:], [
            "circle       thing            0 none", "circle       abcdefghijkl     0 none", "abcdefghijkl thing            1 nothing"])
        self.assertEqual(report(self.desk).split("\n")[-1], "  1 of 3")

    def test_numbers_of_rules(self):
        do_all(self.desk, ["kind web = web(a)", "kind maps = maps(one(a),one(a))", "ask web web", "ask abcdefghijkl maps",
                           "ask maps maps"])
        spaces = [self.desk.space_of(name) for name in ("web", "abcdefghijkl", "maps")]
        self.assertEqual([row[32:] for row in report(self.desk).split("\n")[1:4]],
                         [str(count_rules(source, goal)) for source, goal in
                          ((spaces[0], spaces[0]), (spaces[1], spaces[2]), (spaces[2], spaces[2]))])


if __name__ == "__main__":
    unittest.main()
