"""Helpers, lots of things under a group, and the lots that are restless for a helper."""

from nonames.cosets import coset_rows
from nonames.counting import count_structures
from nonames.errors import BadHelper
from nonames.kinds import check_kind, is_between
from nonames.spaces import Space
from nonames.worlds import World

MOST_PICKED = 12
MOST_MADE = 4


def is_pick(helper):
    """Tell whether a value has the form of a helper that picks."""
    if not isinstance(helper, tuple) or len(helper) != 2:
        return False
    return helper[0] == "pick" and is_between(helper[1], 1, MOST_PICKED)


def is_make(helper):
    """Tell whether a value has the form of a helper that makes, whatever its kind is."""
    if not isinstance(helper, tuple) or len(helper) != 3:
        return False
    return helper[0] == "make" and is_between(helper[1], 0, MOST_MADE)


def check_helper(helper):
    """Raise an error if the value is not a helper with at least one answer."""
    if is_pick(helper):
        return
    if not is_make(helper):
        raise BadHelper(helper)
    check_kind(helper[2], 1)
    if count_structures(World((helper[1],)), helper[2]) == 0:
        raise BadHelper(helper)


def answer_space(helper):
    """Return the space of the answers of a helper that makes; None for one that picks."""
    if helper[0] == "pick":
        return None
    return Space(World((helper[1],)), helper[2])


def least_alike(lattice, number, part):
    """Return the least of the groups that are alike to the part under a group."""
    return min([lattice.carried(part, member) for member in lattice.groups[number]])


def fillings(choices, many):
    """List the ascending tuples of groups whose ratios add up to `many`.

    `choices` holds the pairs of the number of a group and its ratio, in ascending order.
    """
    if many == 0:
        return [()]
    found = []
    for at, (part, ratio) in enumerate(choices):
        if ratio <= many:
            found.extend([(part,) + others for others in fillings(choices[at:], many - ratio)])
    return found


def lots_under(lattice, number, many):
    """List the lots of `many` things under a group, each kind of lot once."""
    choices = [(part, lattice.ratio(number, part)) for part in lattice.held(number)
               if least_alike(lattice, number, part) == part]
    return fillings(choices, many)


def thing_rows(lattice, number, parts):
    """Return, for each member of a group, the things to which it moves those of a lot."""
    return coset_rows(lattice.world, lattice.groups[number], [lattice.groups[part] for part in parts])


def is_restless_in(lattice, number, helper, parts, space):
    """Tell whether a lot is restless for a helper with this answer space."""
    if sum([lattice.ratio(number, part) for part in parts]) != helper[1]:
        return False
    if space is None:
        # A coset of a part stays where it is only if there is no other coset of the part.
        return number not in parts
    renamings = [space.world.number(row) for row in thing_rows(lattice, number, parts)]
    return not space.fixed(tuple(sorted(set(renamings))))


def first_restless(lattice, number, helper, space):
    """Return the first lot that is restless for a helper with this answer space, or None."""
    for parts in lots_under(lattice, number, helper[1]):
        if is_restless_in(lattice, number, helper, parts, space):
            return parts
    return None


def is_restless(lattice, number, helper, parts):
    """Tell whether the lot of these parts is restless for the helper."""
    return is_restless_in(lattice, number, helper, parts, answer_space(helper))


def restless_lot(lattice, number, helper):
    """Return the first lot that is restless for the helper, or None."""
    return first_restless(lattice, number, helper, answer_space(helper))
