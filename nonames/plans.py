"""Plans: whom to ask at each stand, so that the helpers' answers lead to good groups."""

from nonames.errors import NoPlan
from nonames.helped import first_help, help_among, helps_at
from nonames.helpers import answer_space, is_restless_in
from nonames.powers import Power


def good_groups(lattice, goal):
    """Return the numbers of all groups that leave some structure of the goal alone."""
    power = Power.of_space(lattice, goal)
    return power.group_numbers()


def bad_groups(lattice, start, good):
    """List the groups that a group holds and that are not good."""
    return [number for number in lattice.held(start) if number not in good]


def plan_by(lattice, numbers, helps):
    """Return the rows of a plan for these groups, or raise NoPlan with the first one that is unhelped.

    `helps` is a dict of `helps_at` for all groups that these groups hold.
    """
    rows = []
    for number in numbers:
        found = help_among(lattice, number, helps)
        if found is None:
            raise NoPlan(number)
        rows.append((number,) + found)
    return tuple(rows)


def find_plan(lattice, start, good, *, helpers):
    """Return the plan from a group to good ones, or raise NoPlan with the least unhelped group on the way."""
    helps = helps_at(lattice, lattice.held(start), helpers)
    return plan_by(lattice, bad_groups(lattice, start, good), helps)


def is_sound_row(lattice, row, helpers, spaces):
    """Tell whether a row asks for a restless lot, whatever integers it holds; its group is the number of one."""
    number, base, k, parts = row
    if base not in lattice.held(number) or not 0 <= k < len(helpers):
        return False
    held = lattice.held(base)
    if not all([part in held for part in parts]):
        return False
    return is_restless_in(lattice, base, helpers[k], parts, spaces[k])


def judge_plan(lattice, start, good, plan, *, helpers):
    """Tell whether a plan from a group to good ones is sound."""
    if [row[0] for row in plan] != bad_groups(lattice, start, good):
        return False
    spaces = [answer_space(helper) for helper in helpers]
    return all([is_sound_row(lattice, row, helpers, spaces) for row in plan])


def judge_block(lattice, start, good, number, *, helpers):
    """Tell whether an integer is the number of a group that blocks."""
    return number in bad_groups(lattice, start, good) and first_help(lattice, number, helpers) is None
