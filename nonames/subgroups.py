"""Groups as objects."""

from nonames.errors import BadGroup
from nonames.groups import generated, is_group


class Group:
    """A group of renamings of a world."""

    def __init__(self, world, members):
        self.world = world
        self.members = tuple(members)
        if not is_group(world, self.members):
            raise BadGroup(self.members)
        self._rank = (len(self.members), self.members)

    @classmethod
    def made(cls, world, numbers):
        """Return the least group that holds the renamings of these numbers."""
        return cls(world, generated(world, numbers))

    def __and__(self, other):
        return Group(self.world, [member for member in self.members if member in other.members])

    def __or__(self, other):
        return Group(self.world, generated(self.world, self.members + other.members))

    def __floordiv__(self, other):
        if not all([member in self.members for member in other.members]):
            raise BadGroup(other.members)
        return len(self.members) // len(other.members)

    def __contains__(self, x):
        return x in self.members

    def __len__(self):
        return len(self.members)

    def __eq__(self, other):
        return isinstance(other, Group) and self._rank == other._rank

    def __lt__(self, other):
        if not isinstance(other, Group):
            return NotImplemented
        return self._rank < other._rank
