"""The marks of a kind, which may have far more structures than can be listed."""

from nonames.counting import MOST, count_kind
from nonames.errors import TooMany
from nonames.kinds import check_kind, inner_kinds
from nonames.marks import Marks
from nonames.moves import orbits_of
from nonames.spaces import Space

# Above this number of structures a kind has no marks.
MOST_MARKED = 10 ** 60

# Whether the inner kinds of each built kind must be listed.
LISTED = {
    "either": (False, False),
    "both": (False, False),
    "lots": (True,),
    "maps": (True, False),
    "pairing": (True, True),
}


def check_count(world, kind, listed):
    """Return the number of structures, or raise TooMany with the first kind that has too many."""
    inner = inner_kinds(kind)
    if inner:
        counts = [check_count(world, part, listed or more) for part, more in zip(inner, LISTED[kind[0]])]
    else:
        counts = []
    most = MOST if listed else MOST_MARKED
    number = count_kind(world, kind, counts, most)
    if number > most:
        raise TooMany(kind)
    return number


def own_stabilizer(space, group, number):
    """Return the members of a group that leave a structure alone."""
    return tuple([member for member in group if space.moves[member][number] == number])


def orbits_under(space, group):
    """List the orbits of a group on a space, ordered by their first numbers."""
    return orbits_of(space.size, [space.moves[member] for member in group])


def ways_to_choose(sizes, many):
    """Return the number of ways to choose from sizes so that the chosen ones add up to `many`."""
    ways = [1] + [0 for _ in range(many)]
    for size in sizes:
        ways = [ways[total] + (ways[total - size] if total >= size else 0) for total in range(many + 1)]
    return ways[many]


def map_mark(lattice, space, answers, group):
    """Return the mark of `maps` at a group, from its source space and the marks of its answers."""
    mark = 1
    for orbit in orbits_under(space, group):
        rest = own_stabilizer(space, group, orbit[0])
        mark = mark * answers[lattice.class_of(lattice.number(rest))]
    return mark


def pairing_mark(space, other, group):
    """Return the mark of a `pairing` of two spaces at a group."""
    if space.size != other.size:
        return 0
    goals = [own_stabilizer(other, group, number) for number in range(other.size)]
    mark = 1
    taken = []
    for orbit in orbits_under(space, group):
        rest = own_stabilizer(space, group, orbit[0])
        mark = mark * (goals.count(rest) - taken.count(rest))
        taken.extend([own_stabilizer(space, group, number) for number in orbit])
    return mark


def listed_marks(lattice, kind, groups):
    """Return the marks, at each of the groups, of a kind whose left inner kind must be listed."""
    world = lattice.world
    tag = kind[0]
    space = Space(world, kind[1])
    if tag == "lots":
        sizes = [[len(orbit) for orbit in orbits_under(space, group)] for group in groups]
        return [ways_to_choose(row, kind[2]) for row in sizes]
    if tag == "maps":
        answers = class_marks(lattice, kind[2])
        return [map_mark(lattice, space, answers, group) for group in groups]
    other = Space(world, kind[2])
    return [pairing_mark(space, other, group) for group in groups]


def class_marks(lattice, kind):
    """Return the marks of a kind at the first group of each class, a list."""
    tag = kind[0]
    if tag in ("either", "both"):
        left = class_marks(lattice, kind[1])
        right = class_marks(lattice, kind[2])
        if tag == "either":
            return [mark + other for mark, other in zip(left, right)]
        return [mark * other for mark, other in zip(left, right)]
    groups = [lattice.groups[lot[0]] for lot in lattice.classes]
    if tag in LISTED:
        return listed_marks(lattice, kind, groups)
    space = Space(lattice.world, kind)
    return [len(space.fixed(group)) for group in groups]


def kind_marks(lattice, kind):
    """Return the marks of a kind, or raise BadKind or else TooMany."""
    check_kind(kind, len(lattice.world.sizes))
    check_count(lattice.world, kind, False)
    return Marks(lattice, class_marks(lattice, kind))
