"""Actions: groups with things that their members exchange."""

from nonames.cosets import coset_rows
from nonames.errors import BadAction
from nonames.moves import fitting_things, orbits_of, spread


def are_moves(world, group, rows):
    """Tell whether these rows are the moves of an action of the group."""
    if len(rows) != len(group):
        return False
    things = list(range(len(rows[0])))
    if any([sorted(row) != things for row in rows]):
        return False
    found = {member: row for member, row in zip(group, rows)}
    return all([found[world.then(first, second)] == tuple([found[second][thing] for thing in found[first]])
                for first in group for second in group])


class Action:
    """A group with things, numbered from 0, that its members exchange."""

    def __init__(self, world, group, moves):
        self.world = world
        self.group = tuple(group)
        self.moves = tuple([tuple(row) for row in moves])
        if not are_moves(world, self.group, self.moves):
            raise BadAction(self.moves)
        self.size = len(self.moves[0])

    @classmethod
    def of_space(cls, space, group):
        """Return the action of the group on the structures of a space."""
        return cls(space.world, group, [space.moves[member] for member in group])

    @classmethod
    def of_sort(cls, world, sort, group):
        """Return the action of the group on the things of a sort."""
        things = world.things_of(sort)
        return cls(world, group, [[things.index(world.renamings[member][thing]) for thing in things]
                                  for member in group])

    @classmethod
    def of_cosets(cls, world, group, parts):
        """Return the action of the group on the cosets of some groups that it holds."""
        return cls(world, group, coset_rows(world, group, parts))

    def moved(self, thing, renaming):
        """Return the thing to which a member moves a thing."""
        return self.moves[self.group.index(renaming)][thing]

    def orbits(self):
        """Return the orbits, ordered by their first things."""
        return orbits_of(self.size, self.moves)

    def stabilizer(self, thing):
        """Return the members that move a thing to itself."""
        return tuple([member for member, row in zip(self.group, self.moves) if row[thing] == thing])

    def rests(self, part):
        """Return the things that each of these members moves to itself."""
        rows = [row for member, row in zip(self.group, self.moves) if member in part]
        return [thing for thing in range(self.size) if all([row[thing] == thing for row in rows])]

    def image(self, small):
        """Return the numbers of the rows among the renamings of a world with as many things."""
        return tuple(sorted({small.number(row) for row in self.moves}))

    def matched(self, other):
        """Return a one-to-one map onto the things of another action that keeps the moves, or None."""
        if self.size != other.size:
            return None
        goals = fitting_things(self, other)
        return None if goals is None else spread(self, other, goals)


def parting(lattice, action, other):
    """Return the least group under which the two actions have different numbers of things at rest, or None."""
    for number in lattice.held(lattice.number(action.group)):
        members = lattice.groups[number]
        if len(action.rests(members)) != len(other.rests(members)):
            return number
    return None
