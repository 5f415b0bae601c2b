"""Which groups helpers help."""

from nonames.helpers import answer_space, first_restless


def help_at(lattice, base, helpers, spaces):
    """Return the first help that has this base, or None."""
    for k, helper in enumerate(helpers):
        parts = first_restless(lattice, base, helper, spaces[k])
        if parts is not None:
            return (base, k, parts)
    return None


def helps_at(lattice, bases, helpers):
    """Return a dict from each of these groups to the first help that has it as its base, or to None."""
    spaces = [answer_space(helper) for helper in helpers]
    return {base: help_at(lattice, base, helpers, spaces) for base in bases}


def help_among(lattice, number, helps):
    """Return the first help of the group, or None; `helps` is a dict of `helps_at` for all groups that it holds."""
    for base in lattice.held(number):
        if helps[base] is not None:
            return helps[base]
    return None


def first_help(lattice, number, helpers):
    """Return the first help of the group, or None if it is unhelped."""
    return help_among(lattice, number, helps_at(lattice, lattice.held(number), helpers))


def unhelped_groups(lattice, helpers):
    """Return the numbers of all groups that the helpers do not help."""
    spaces = [answer_space(helper) for helper in helpers]
    # Groups that are alike up to names are bases together or not at all.
    bases = [help_at(lattice, lot[0], helpers, spaces) is not None for lot in lattice.classes]
    return tuple([number for number in range(len(lattice.groups))
                  if not any([bases[lattice.class_of(base)] for base in lattice.held(number)])])


def uncovered(lattice, helpers, others):
    """Return the least group that the others help and the helpers do not help, or None."""
    by_others = unhelped_groups(lattice, others)
    for number in unhelped_groups(lattice, helpers):
        if number not in by_others:
            return number
    return None


def covers(lattice, helpers, others):
    """Tell whether the helpers help each group that the others help."""
    return uncovered(lattice, helpers, others) is None
