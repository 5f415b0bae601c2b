"""Spaces: all structures of a kind, and how the renamings move them."""

from nonames.errors import BadStructure
from nonames.kinds import check_kind
from nonames.listing import list_structures
from nonames.moves import orbits_of
from nonames.moving import renaming_table


def step_row(world, kind, structures, step):
    """Return the number of each structure after a renaming."""
    numbers = {value: at for at, value in enumerate(structures)}
    table = renaming_table(world, kind, structures, world.renamings[step])
    return tuple([numbers[table[value]] for value in structures])


def all_moves(world, kind, structures):
    """Return the row of each renaming, in the order of the renamings."""
    rows = {0: tuple(range(len(structures)))}
    steps = [(step, step_row(world, kind, structures, step)) for step in world.steps()]
    # Each renaming is made of steps, so only the steps need be done on the structures.
    waiting = [0]
    while waiting:
        number = waiting.pop()
        for step, row in steps:
            after = world.then(number, step)
            if after not in rows:
                rows[after] = tuple([row[at] for at in rows[number]])
                waiting.append(after)
    return tuple([rows[number] for number in range(world.order)])


class Space:
    """All structures of a kind, numbered in ascending order."""

    def __init__(self, world, kind):
        check_kind(kind, len(world.sizes))
        self.world = world
        self.kind = kind
        self.structures = tuple(list_structures(world, kind))
        self.size = len(self.structures)
        self.moves = all_moves(world, kind, self.structures)

    def __iter__(self):
        return iter(self.structures)

    def __contains__(self, value):
        return value in self.structures

    def number(self, structure):
        """Return the number of a structure."""
        if structure not in self.structures:
            raise BadStructure(structure)
        return self.structures.index(structure)

    def moved(self, number, renaming):
        """Return the number of a structure after a renaming."""
        return self.moves[renaming][number]

    def orbits(self):
        """Return the orbits, ordered by their first numbers."""
        return orbits_of(self.size, self.moves)

    def stabilizer(self, number):
        """Return the renamings that leave a structure alone."""
        return tuple([at for at, row in enumerate(self.moves) if row[number] == number])

    def carrier(self, start, goal):
        """Return the least renaming that makes one structure another, or None."""
        for at, row in enumerate(self.moves):
            if row[start] == goal:
                return at
        return None

    def fixed(self, group):
        """Return the numbers of the structures that each of these renamings leaves alone."""
        return [number for number in range(self.size)
                if all([self.moves[renaming][number] == number for renaming in group])]
