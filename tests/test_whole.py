"""Tests of what DOC.md asks of the whole program: its interface, and points 2 and 20."""

import importlib
import inspect
import unittest
from nonames.actions import Action
from nonames.bundles import Bundle, full_bundle
from nonames.desks import Desk, do_all
from nonames.errors import BadEntry, BadKind, BadMove, BadText, NoPlan, TooMany, UnknownName
from nonames.families import Family
from nonames.helped import unhelped_groups
from nonames.lattices import Lattice
from nonames.marks import Marks
from nonames.matches import Match, play_plan
from nonames.pickers import Picker
from nonames.plans import find_plan, judge_plan
from nonames.powers import Power
from nonames.rules import Rule
from nonames.spaces import Space
from nonames.subgroups import Group
from nonames.tables import goal_table
from nonames.verdicts import carry_plan, find_verdict
from nonames.worlds import World

# Each function and class of the interface with its arguments; "self" stands before those of methods.
INTERFACE = {
    "errors": ["NonamesError(given)", "BadText(given, place)"],
    "worlds": ["World(sizes)", "World.things_of(self, sort)", "World.sort_of(self, thing)", "World.number(self, renaming)",
               "World.then(self, first, second)", "World.inverse(self, number)", "World.steps(self)"],
    "kinds": ["inner_kinds(kind)", "check_kind(kind, sorts)", "kind_depth(kind)"],
    "counting": ["count_structures(world, kind)"],
    "listing": ["list_structures(world, kind)"],
    "moving": ["rename_structure(world, kind, structure, number)"],
    "checking": ["is_structure(world, kind, value)"],
    "spaces": ["Space(world, kind)", "Space.number(self, structure)", "Space.moved(self, number, renaming)",
               "Space.orbits(self)", "Space.stabilizer(self, number)", "Space.carrier(self, start, goal)",
               "Space.fixed(self, group)"],
    "groups": ["generated(world, numbers)", "is_group(world, members)", "carried_group(world, group, number)",
               "all_groups(world)"],
    "lattices": ["Lattice(world)", "Lattice.number(self, group)", "Lattice.class_of(self, number)",
                 "Lattice.first_of(self, place)", "Lattice.carried(self, number, renaming)", "Lattice.held(self, number)",
                 "Lattice.holds(self, number, other)", "Lattice.meet(self, number, other)",
                 "Lattice.join(self, number, other)", "Lattice.ratio(self, number, other)"],
    "texts": ["tokens_of(text)", "format_kind(kind, *, spaced=False)", "parse_kind(text, sorts)", "format_world(world)",
              "parse_world(text)"],
    "values": ["format_value(value, *, spaced=False)", "parse_value(text)", "fault_path(world, kind, value)",
               "parse_structure(world, kind, text)"],
    "cycles": ["cycles_of(world, number)", "format_renaming(world, number)", "parse_renaming(world, text)",
               "group_basis(world, group)", "format_group(world, group)", "parse_group(world, text)"],
    "forms": ["Form(terms)", "Form.named(count)", "Form.of_kind(kind)"],
    "addresses": ["address_of(world, kind, structure)", "structure_at(world, kind, address)", "addresses_in(world, form)"],
    "bridges": ["same_form(kind, other)", "bridge(world, kind, other, structure)"],
    "cosets": ["coset_of(world, group, number)", "cosets_in(world, part, group)", "made_thing(world, coset)"],
    "actions": ["Action(world, group, moves)", "Action.of_space(space, group)", "Action.of_sort(world, sort, group)",
                "Action.of_cosets(world, group, parts)", "Action.moved(self, thing, renaming)", "Action.orbits(self)",
                "Action.stabilizer(self, thing)", "Action.rests(self, part)", "Action.image(self, small)",
                "Action.matched(self, other)", "parting(lattice, action, other)"],
    "subgroups": ["Group(world, members)", "Group.made(world, numbers)"],
    "rules": ["Rule(source, goal, choices)", "Rule.from_table(source, goal, table)", "Rule.identity(space)"],
    "rulecounts": ["allowed_answers(source, goal)", "count_rules(source, goal)", "rule_at(source, goal, position)",
                   "position_of(rule)", "refusal(source, goal)", "judge_refusal(source, goal, paper)",
                   "find_rule(source, goal)"],
    "marks": ["Marks(lattice, numbers)", "Marks.of_space(lattice, space)", "Marks.counts(self)", "mark_table(lattice)"],
    "ways": ["orbit_counts(lattice, space)", "find_into(lattice, source, goal)", "find_onto(lattice, source, goal)",
             "find_both_ways(lattice, source, goal)"],
    "currying": ["curry(rule)", "uncurry(rule)"],
    "kindmarks": ["kind_marks(lattice, kind)"],
    "helpers": ["check_helper(helper)", "lots_under(lattice, number, many)", "is_restless(lattice, number, helper, parts)",
                "restless_lot(lattice, number, helper)"],
    "helped": ["first_help(lattice, number, helpers)", "unhelped_groups(lattice, helpers)",
               "uncovered(lattice, helpers, others)", "covers(lattice, helpers, others)"],
    "plans": ["good_groups(lattice, goal)", "find_plan(lattice, start, good, *, helpers)",
              "judge_plan(lattice, start, good, plan, *, helpers)", "judge_block(lattice, start, good, number, *, helpers)"],
    "families": ["Family(lattice, stand, base, helper, parts)", "Family.fits(lattice, stand, base, helper, parts)",
                 "Family.fibre(self, k)", "Family.carried(self, k, answer, renaming)", "Family.new_stand(self, picks)",
                 "Family.pickings(self)", "Family.rests(self, k, number)", "Family.kept(self, number)",
                 "Family.picking_for(self, number)"],
    "pickers": ["Picker()", "Picker.pick(self, family)", "DrawnPicker(number)", "DrawnPicker.pick(self, family)",
                "StubbornPicker(number)", "StubbornPicker.pick(self, family)"],
    "matches": ["Match(lattice, start, good, helpers)", "Match.from_structure(lattice, source, number, goal, *, helpers)",
                "Match.ask(self, base, k, parts)", "Match.answer(self, picks)", "Match.undo(self)", "Match.history(self)",
                "play_plan(match, plan, picker)", "trial(match, plan, picker)"],
    "askings": ["least_bad(lattice, stand, good)", "breaks(lattice, stand, asking, number, *, helpers)",
                "restless_askings(lattice, stand, *, helpers)"],
    "bundles": ["Bundle(lattice, stand, askings, *, helpers)", "Bundle.kept_groups(self)", "Bundle.enough(self, good)",
                "Bundle.replies(self)", "Bundle.reply_for(self, number)", "Bundle.new_stand(self, pickings)",
                "full_bundle(lattice, stand, good, *, helpers)", "least_bundle(lattice, stand, good, *, helpers)"],
    "sizes": ["reachable_sizes(lattice, number, *, top=12)", "sizes_enough(lattice, start, goal, sizes)",
              "unmet_group(lattice, start, goal, sizes)", "least_sizes(lattice, start, goal, *, top=12)",
              "needless_sizes(lattice, sizes)"],
    "tables": ["goal_table(world, kinds, *, top=12)", "choice_table(size, *, top=12)",
               "start_table(lattice, source, goal, *, top=12)", "helper_table(lattice, helpers, *, top=12)",
               "joined_sizes(*lots)"],
    "verdicts": ["find_verdict(lattice, source, goal, *, helpers=())",
                 "judge_verdict(lattice, source, goal, verdict, *, helpers=())", "carry_plan(lattice, plan, renaming)",
                 "carry_out(lattice, source, goal, verdict, structure, picker, *, helpers=())"],
    "powers": ["Power(lattice, classes)", "Power.of_space(lattice, space)", "Power.of_kind(lattice, kind)",
               "Power.beneath(lattice, classes)", "Power.full(lattice)", "Power.unhelped(lattice, helpers)",
               "Power.holds(self, other)", "Power.group_numbers(self)", "makes_with(power, other, unhelped)"],
    "books": ["KindBook(lattice)", "KindBook.makes(self, name, other, *, helpers=())",
              "KindBook.refusal(self, name, other, *, helpers=())", "KindBook.alike(self, *, helpers=())",
              "KindBook.steps(self, *, helpers=())", "KindBook.together(self, *names)", "KindBook.either_of(self, *names)"],
    "making": ["own_group(world, kind, structure)", "least_renamed(world, kind, structure)",
               "make_from(world, kind, structure, goal)"],
    "dividing": ["polynomial_kind(coefficients, sort)", "polynomial_value(coefficients, number)",
                 "divide(world, kind, other, f)", "division_plan(lattice, kind, other, f, *, helpers)",
                 "judge_division(world, kind, other, f, answer)"],
    "roads": ["road(world, coefficients, f, start)", "subtract(world, coefficients, f)", "rings(world, f)", "halve(world, f)"],
    "desks": ["Desk(sizes)", "Desk.read(text)", "Desk.do(self, line)", "Desk.undo(self)", "Desk.write(self)",
              "Desk.set_top(self, value)", "Desk.space_of(self, name)", "Desk.verdict_of(self, name, other)",
              "Desk.least_for(self, name, other)", "Desk.verdicts(self)", "Desk.book(self)", "do_all(desk, lines)"],
    "reports": ["report(desk)", "size_report(desk)"],
}
PROPERTIES = {"powers": {"Power": ["tops"]}, "matches": {"Match": ["current", "over", "waiting"]},
              "desks": {"Desk": ["allowed", "questions", "lines", "top"]}}
OPERATORS = {"spaces": {"Space": "iter contains"}, "forms": {"Form": "add mul eq pow getitem iter call"},
             "subgroups": {"Group": "and or floordiv contains len eq lt"}, "rules": {"Rule": "call rshift eq"},
             "marks": {"Marks": "add mul getitem eq iter"}, "families": {"Family": "contains"}, "pickers": {"Picker": "call"},
             "bundles": {"Bundle": "len contains add"}, "powers": {"Power": "and or rshift invert eq contains bool"},
             "books": {"KindBook": "setitem getitem contains iter"}, "desks": {"Desk": "getitem contains iter"}}
ERRORS = ("BadWorld BadRenaming BadKind TooMany BadStructure BadGroup BadAction BadMarks BadRule BadHelper BadMove BadPick "
          "BadPower BadMap BadEntry UnknownName NothingToUndo Impossible BadText").split()


class InterfaceTest(unittest.TestCase):
    def test_names_and_arguments(self):
        for module, rows in INTERFACE.items():
            held = importlib.import_module("nonames." + module)
            for row in rows:
                name, _, rest = row.partition("(")
                found = held
                for part in name.split("."):
                    if inspect.isclass(found):
                        # A method stands in the body of its class itself.
                        self.assertIn(part, vars(found), row)
                    found = getattr(found, part)
                self.assertEqual(str(inspect.signature(found)), "(" + rest, row)
                self.assertEqual(found.__module__, held.__name__, row)

    def test_properties_and_operators(self):
        for module, classes in PROPERTIES.items():
            for name, properties in classes.items():
                held = getattr(importlib.import_module("nonames." + module), name)
                for own in properties:
                    self.assertIsInstance(vars(held)[own], property)
        for module, classes in OPERATORS.items():
            for name, operators in classes.items():
                held = getattr(importlib.import_module("nonames." + module), name)
                for own in operators.split():
                    self.assertIn(f"__{own}__", vars(held))

    def test_classes_of_errors(self):
        held = importlib.import_module("nonames.errors")
        for name in ERRORS:
            self.assertEqual(getattr(held, name).__bases__, (held.NonamesError,))
        for name in ("NoRule", "NoWay", "NoPlan", "NoBridge", "NoDivision"):
            self.assertEqual(getattr(held, name).__bases__, (held.Impossible,))


class ListTest(unittest.TestCase):
    """Point 2: what the caller changes later changes nothing."""

    def setUp(self):
        self.world = World((3,))
        self.lattice = Lattice(self.world)

    def test_lists_that_were_passed(self):
        sizes, members, numbers, classes, choices = [3], [0, 3, 4], [6, 2, 2, 1], [0, 1], [0]
        rows = [[0, 1, 2], [0, 1, 2], [0, 1, 2]]
        good, helpers, parts, askings = [0, 1], [("pick", 3)], [0], [(4, 0, (0,))]
        row, one = Space(self.world, ("row", 0)), Space(self.world, ("one", 0))
        made = [World(sizes), Group(self.world, members), Marks(self.lattice, numbers), Power(self.lattice, classes),
                Rule(row, one, choices), Action(self.world, [0, 3, 4], rows), Match(self.lattice, 5, good, helpers),
                Family(self.lattice, 5, 4, ("pick", 3), parts), Bundle(self.lattice, 5, askings, helpers=helpers), Desk(sizes)]
        before = self.looks(made)
        for given in (sizes, members, numbers, classes, choices, good, helpers, parts, askings, rows[0], rows):
            given.append(7)
            given.reverse()
        self.assertEqual(self.looks(made), before)

    def looks(self, made):
        world, group, marks, power, rule, action, match, family, bundle, desk = made
        return (world.sizes, world.renamings, group.members, marks.numbers, power.classes, rule.choices, rule.table, action.moves,
                match.good, match.helpers, match.over, family.parts, family.places, bundle.askings, bundle.helpers,
                bundle.kept_groups(), desk.world.sizes)

    def test_lists_that_were_returned(self):
        space = Space(self.world, ("web", 0))
        family = Family(self.lattice, 5, 4, ("pick", 3), (0,))
        match = Match(self.lattice, 5, (0, 1, 2, 3), [("pick", 3)])
        play_plan(match, [(5, 4, 0, (0,))], Picker())
        desk = Desk((3,))
        do_all(desk, ["kind a = one(a)", "ask a a"])
        for call in (self.world.steps, space.orbits, lambda: space.fixed((0,)), lambda: family.rests(0, 0), match.history,
                     desk.verdicts, lambda: desk.least_for("a", "a"), lambda: play_plan(match, (), Picker())):
            before = list(call())
            call().append(0)
            self.assertEqual(call(), before)

    def test_no_argument_is_modified(self):
        good, helpers, plan = [0, 1, 2, 3], [("pick", 3), ("pick", 2)], [(5, 4, 0, (0,)), (4, 4, 0, (0,))]
        judge_plan(self.lattice, 5, tuple(good), plan, helpers=helpers)
        carry_plan(self.lattice, plan, 2)
        find_plan(self.lattice, 5, tuple(good), helpers=helpers)
        unhelped_groups(self.lattice, helpers)
        full_bundle(self.lattice, 5, (0,), helpers=helpers)
        find_verdict(self.lattice, Space(self.world, ("one", 0)), Space(self.world, ("row", 0)), helpers=helpers)
        Match(self.lattice, 5, good, helpers).ask(4, 0, [0])
        self.assertEqual((good, helpers, plan), ([0, 1, 2, 3], [("pick", 3), ("pick", 2)], [(5, 4, 0, (0,)), (4, 4, 0, (0,))]))


class FirstErrorTest(unittest.TestCase):
    """Point 20: of several errors the first one that a point names is raised."""

    def test_first_errors(self):
        world = World((3,))
        lattice = Lattice(world)
        many = ("both", ("web", 0), ("both", ("web", 0), ("named", 2)))
        helpers = [("pick", 2)]
        for error, given, call in (
                (BadKind, 5, lambda: Space(world, ("both", many, 5))),
                (BadKind, 5, lambda: goal_table(world, [("both", many, 5), many])),
                (TooMany, many, lambda: goal_table(world, [many, 5])),
                (BadMove, (4, 9, ()), lambda: Bundle(lattice, 5, [(4, 9, ()), (1, 7, ())], helpers=helpers)),
                (NoPlan, 0, lambda: full_bundle(lattice, 5, (), helpers=[])),
                (BadText, "x", lambda: Desk.read("world x\nwrong")),
                (BadEntry, "", lambda: Desk.read("world 3\n\nask a b"))):
            with self.assertRaises(error) as caught:
                call()
            self.assertEqual(caught.exception.given, given)
        desk = Desk((3,))
        with self.assertRaises(UnknownName) as caught:
            do_all(desk, ["kind a = one(a)", "ask b a", "wrong"])
        self.assertEqual((caught.exception.given, list(desk)), ("b", []))


if __name__ == "__main__":
    unittest.main()
