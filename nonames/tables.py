"""Tables of the sizes that are enough."""

from nonames.helped import unhelped_groups
from nonames.lattices import Lattice
from nonames.plans import good_groups
from nonames.sizes import least_sizes
from nonames.spaces import Space
from nonames.worlds import World


def sizes_from_nothing(lattice, goal, top):
    """List the least lots of sizes from all groups to the given ones."""
    return least_sizes(lattice, tuple(range(len(lattice.groups))), goal, top=top)


def goal_table(world, kinds, *, top=12):
    """List each kind with the least lots of sizes from nothing to its space, or raise an error of Space."""
    lattice = Lattice(world)
    goals = [good_groups(lattice, Space(world, kind)) for kind in kinds]
    return [(kind, sizes_from_nothing(lattice, goal, top)) for kind, goal in zip(kinds, goals)]


def choice_table(size, *, top=12):
    """List the least lots of sizes that are enough to choose one of so many things, or raise BadWorld."""
    table = goal_table(World((size,)), [("one", 0)], top=top)
    return table[0][1]


def start_table(lattice, source, goal, *, top=12):
    """List the first number of each orbit of the source with the least lots of sizes from there to the goal."""
    good = good_groups(lattice, goal)
    starts = [(orbit[0], lattice.number(source.stabilizer(orbit[0]))) for orbit in source.orbits()]
    return [(number, least_sizes(lattice, lattice.held(start), good, top=top)) for number, start in starts]


def helper_table(lattice, helpers, *, top=12):
    """List each helper with the least lots of sizes that help wherever it helps."""
    return [(helper, sizes_from_nothing(lattice, unhelped_groups(lattice, [helper]), top)) for helper in helpers]


def joined_sizes(*lots):
    """Return all sizes of the lots, each once, in ascending order."""
    return tuple(sorted({size for lot in lots for size in lot}))
