"""Worlds: a few things of one or two sorts, and their renamings."""

from math import factorial
from nonames.choosing import orders_of
from nonames.errors import BadRenaming, BadWorld


def renamings_of(sizes):
    """Return the renamings of the world with these sizes, in ascending order."""
    found = [()]
    start = 0
    for size in sizes:
        rows = orders_of(list(range(start, start + size)))
        found = [left + right for left in found for right in rows]
        start = start + size
    return found


def after_another(first, second):
    """Return the renaming that does the first renaming, then the second."""
    return tuple([second[thing] for thing in first])


class World:
    """A world with the given number of things of each sort."""

    LARGEST = 4
    MOST = 36

    def __init__(self, sizes):
        self.sizes = tuple(sizes)
        if not self._allows(self.sizes):
            raise BadWorld(self.sizes)
        self.things = sum(self.sizes)
        self.renamings = tuple(renamings_of(self.sizes))
        self.order = len(self.renamings)
        self._numbers = {row: at for at, row in enumerate(self.renamings)}
        # Two renamings are put together so often that the results are kept.
        self._table = [[self._numbers[after_another(first, second)] for second in self.renamings]
                       for first in self.renamings]
        self._inverses = [row.index(0) for row in self._table]

    def _allows(self, sizes):
        """Tell whether there is a world with these sizes."""
        if len(sizes) not in (1, 2):
            return False
        order = 1
        for size in sizes:
            if size < 0 or size > self.LARGEST:
                return False
            order = order * factorial(size)
        return order <= self.MOST

    def things_of(self, sort):
        """Return the things of the sort, an ascending tuple."""
        if sort == 0:
            return tuple(range(self.sizes[0]))
        return tuple(range(self.sizes[0], self.things))

    def sort_of(self, thing):
        """Return the sort of the thing."""
        return 0 if thing < self.sizes[0] else 1

    def number(self, renaming):
        """Return the number of a renaming that is given as a tuple or a list."""
        row = tuple(renaming)
        if row not in self._numbers:
            raise BadRenaming(row)
        return self._numbers[row]

    def then(self, first, second):
        """Return the number of the renaming that does the first, then the second."""
        return self._table[first][second]

    def inverse(self, number):
        """Return the number of the renaming that takes this one back."""
        return self._inverses[number]

    def steps(self):
        """Return the numbers of the renamings that exchange two neighbours of one sort."""
        found = []
        for thing in range(self.things - 1):
            if self.sort_of(thing) == self.sort_of(thing + 1):
                row = list(range(self.things))
                row[thing] = thing + 1
                row[thing + 1] = thing
                found.append(self.number(row))
        return found
