"""Making a structure of another kind from one structure, whatever its kind is."""

from nonames.errors import NoRule
from nonames.groups import carried_group
from nonames.moving import rename_structure


def all_renamed(world, kind, structure):
    """List what each renaming makes of a structure."""
    return [rename_structure(world, kind, structure, number) for number in range(world.order)]


def own_group(world, kind, structure):
    """Return the stabilizer of a structure."""
    renamed = all_renamed(world, kind, structure)
    return tuple([number for number in range(world.order) if renamed[number] == structure])


def least_renamed(world, kind, structure):
    """Return the least structure that the renamings make of one, and the least renaming that makes it."""
    renamed = all_renamed(world, kind, structure)
    least = min(renamed)
    return (least, renamed.index(least))


def make_from(world, kind, structure, goal):
    """Return the structure of the goal that is made from a structure, or raise NoRule."""
    own = own_group(world, kind, structure)
    _, number = least_renamed(world, kind, structure)
    # The own group of the renamed structure is that of the structure, carried along.
    resting = goal.fixed(carried_group(world, own, number))
    if not resting:
        raise NoRule(own)
    return goal.structures[goal.moved(resting[0], world.inverse(number))]
