"""Verdicts: a rule, plans or a block for the question whether one kind makes another one."""

from nonames.errors import NoPlan
from nonames.helped import helps_at
from nonames.matches import Match, play_plan
from nonames.plans import bad_groups, good_groups, judge_block, judge_plan, plan_by
from nonames.rulecounts import allowed_answers
from nonames.rules import Rule, are_choices


def start_at(lattice, source, number):
    """Return the number of the stabilizer of a structure."""
    return lattice.number(source.stabilizer(number))


def find_verdict(lattice, source, goal, *, helpers=()):
    """Return the first rule, or else the plans for all orbits, or else the first block."""
    allowed = allowed_answers(source, goal)
    if all([len(answers) > 0 for answers in allowed]):
        return ("rule", tuple([answers[0] for answers in allowed]))
    good = good_groups(lattice, goal)
    helps = helps_at(lattice, list(range(len(lattice.groups))), helpers)
    plans = []
    for orbit in source.orbits():
        numbers = bad_groups(lattice, start_at(lattice, source, orbit[0]), good)
        try:
            plans.append(plan_by(lattice, numbers, helps))
        except NoPlan as error:
            return ("block", orbit[0], error.given)
    return ("plans", tuple(plans))


def are_sound_plans(lattice, source, good, plans, helpers):
    """Tell whether there is one sound plan for each orbit of the source."""
    starts = [start_at(lattice, source, orbit[0]) for orbit in source.orbits()]
    if len(plans) != len(starts):
        return False
    return all([judge_plan(lattice, start, good, plan, helpers=helpers) for start, plan in zip(starts, plans)])


def judge_verdict(lattice, source, goal, verdict, *, helpers=()):
    """Tell whether a verdict is sound."""
    if verdict[0] == "rule":
        return are_choices(source, goal, verdict[1])
    good = good_groups(lattice, goal)
    if verdict[0] == "plans":
        return are_sound_plans(lattice, source, good, verdict[1], helpers)
    _, first, number = verdict
    if first not in [orbit[0] for orbit in source.orbits()]:
        return False
    return judge_block(lattice, start_at(lattice, source, first), good, number, helpers=helpers)


def carried_row(lattice, row, renaming):
    """Return a row of a plan, carried along by a renaming."""
    group, base, k, parts = row
    carried = tuple([lattice.carried(part, renaming) for part in parts])
    return (lattice.carried(group, renaming), lattice.carried(base, renaming), k, carried)


def carry_plan(lattice, plan, renaming):
    """Return a plan, carried along by a renaming, with its rows in ascending order."""
    return tuple(sorted([carried_row(lattice, row, renaming) for row in plan]))


def plan_for(lattice, source, plans, number):
    """Return the plan of the orbit of a structure, carried along to the structure."""
    orbits = source.orbits()
    place = [at for at, orbit in enumerate(orbits) if number in orbit][0]
    return carry_plan(lattice, plans[place], source.carrier(orbits[place][0], number))


def carry_out(lattice, source, goal, verdict, structure, picker, *, helpers=()):
    """Return the stands and what is made of a structure by a sound verdict, or raise BadStructure or else NoPlan."""
    number = source.number(structure)
    if verdict[0] == "block":
        raise NoPlan(verdict[2])
    if verdict[0] == "rule":
        rule = Rule(source, goal, verdict[1])
        return ((start_at(lattice, source, number),), rule(structure))
    match = Match.from_structure(lattice, source, number, goal, helpers=helpers)
    stands = play_plan(match, plan_for(lattice, source, verdict[1], number), picker)
    resting = goal.fixed(lattice.groups[stands[-1]])
    return (tuple(stands), goal.structures[resting[0]])
