"""All groups of a world, numbered, and how they lie to one another."""

from nonames.errors import BadGroup
from nonames.groups import all_groups, carried_group


def holds_all(group, other):
    """Tell whether a group has all members of another one."""
    return all([member in group for member in other])


def classes_from(carries):
    """Return the lots of groups that are alike, from the row of all carried groups of each."""
    return tuple([tuple(sorted(set(row))) for at, row in enumerate(carries) if min(row) == at])


class Lattice:
    """The groups of a world, numbered from those with fewer members to the greatest one."""

    def __init__(self, world):
        self.world = world
        self.groups = tuple(all_groups(world))
        self._numbers = {group: at for at, group in enumerate(self.groups)}
        self._carries = [[self._numbers[carried_group(world, group, renaming)] for renaming in range(world.order)]
                         for group in self.groups]
        self.classes = classes_from(self._carries)
        self._places = {number: place for place, lot in enumerate(self.classes) for number in lot}
        self._holdings = [[holds_all(group, other) for other in self.groups] for group in self.groups]
        self._below = [tuple([at for at, held in enumerate(row) if held]) for row in self._holdings]

    def number(self, group):
        """Return the number of a group that is given as a tuple or a list."""
        members = tuple(group)
        if members not in self._numbers:
            raise BadGroup(members)
        return self._numbers[members]

    def class_of(self, number):
        """Return the number of the class that holds the group."""
        return self._places[number]

    def first_of(self, place):
        """Return the number of the first group of a class."""
        return self.classes[place][0]

    def carried(self, number, renaming):
        """Return the number of the group, carried along by a renaming."""
        return self._carries[number][renaming]

    def held(self, number):
        """Return the numbers of all groups that the group holds."""
        return self._below[number]

    def holds(self, number, other):
        """Tell whether a group holds another one."""
        return self._holdings[number][other]

    def meet(self, number, other):
        """Return the number of the group of the common members."""
        members = self.groups[other]
        return self._numbers[tuple([member for member in self.groups[number] if member in members])]

    def join(self, number, other):
        """Return the number of the least group that holds both."""
        # The least one has the fewest members of all that hold both, so it comes first.
        both = [at for at, row in enumerate(self._holdings) if row[number] and row[other]]
        return both[0]

    def ratio(self, number, other):
        """Return how many times as many members a group has as one that it holds."""
        return len(self.groups[number]) // len(self.groups[other])
