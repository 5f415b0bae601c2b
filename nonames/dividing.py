"""Dividing maps: from a map between kinds of two sorts to a map between the sorts."""

from nonames.checking import is_structure
from nonames.counting import count_structures
from nonames.errors import BadMap, NoDivision, NoRule
from nonames.groups import all_groups
from nonames.lattices import holds_all
from nonames.making import make_from, own_group
from nonames.moving import rename_structure
from nonames.plans import find_plan, good_groups
from nonames.spaces import Space

# The kind of the divisions.
DIVISION = ("pairing", ("one", 0), ("one", 1))


def polynomial_kind(coefficients, sort):
    """Return the kind that has as many structures as the polynomial says for the number of things of the sort."""
    c0, c1, c2 = coefficients
    thing = ("one", sort)
    squares = ("both", ("named", c2), ("both", thing, thing))
    return ("either", ("named", c0), ("either", ("both", ("named", c1), thing), squares))


def polynomial_value(coefficients, number):
    """Return the value of the polynomial."""
    c0, c1, c2 = coefficients
    return c0 + c1 * number + c2 * number * number


def is_map(world, kind, other, f):
    """Tell whether a value is a map between the kinds, or raise TooMany."""
    count_structures(world, kind)
    count_structures(world, other)
    return is_structure(world, ("pairing", kind, other), f)


def check_map(world, kind, other, f):
    """Raise TooMany or else BadMap if the value is not a map between kinds that can be listed."""
    if not is_map(world, kind, other, f):
        raise BadMap(f)


def resting_things(world, group, sort):
    """List the things of a sort that a group leaves alone."""
    return [thing for thing in world.things_of(sort)
            if all([world.renamings[member][thing] == thing for member in group])]


def unlike_group(world, members):
    """Return the first group within a group that leaves unlike numbers of things alone, or None."""
    for group in all_groups(world):
        if holds_all(members, group):
            if len(resting_things(world, group, 0)) != len(resting_things(world, group, 1)):
                return group
    return None


def divide(world, kind, other, f):
    """Return a division of a map, or raise TooMany, BadMap or NoDivision."""
    check_map(world, kind, other, f)
    try:
        return make_from(world, ("pairing", kind, other), f, Space(world, DIVISION))
    except NoRule as error:
        raise NoDivision(unlike_group(world, error.given)) from error


def division_plan(lattice, kind, other, f, *, helpers):
    """Return the plan from the own group of a map to a division, or raise TooMany, BadMap or NoPlan."""
    world = lattice.world
    check_map(world, kind, other, f)
    start = lattice.number(own_group(world, ("pairing", kind, other), f))
    return find_plan(lattice, start, good_groups(lattice, Space(world, DIVISION)), helpers=helpers)


def judge_division(world, kind, other, f, answer):
    """Tell whether a value is a map and another one is a division of it, or raise TooMany."""
    if not is_map(world, kind, other, f) or not is_structure(world, DIVISION, answer):
        return False
    members = own_group(world, ("pairing", kind, other), f)
    return all([rename_structure(world, DIVISION, answer, member) == answer for member in members])
