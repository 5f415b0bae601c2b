"""Marks: how many structures of a kind each group leaves alone."""

from nonames.errors import BadMarks


class Marks:
    """One number from 0 on for each class of groups of a lattice."""

    def __init__(self, lattice, numbers):
        self.lattice = lattice
        self.numbers = tuple(numbers)
        if len(self.numbers) != len(lattice.classes) or any([number < 0 for number in self.numbers]):
            raise BadMarks(self.numbers)

    @classmethod
    def of_space(cls, lattice, space):
        """Return the marks of the kind of a space."""
        return cls(lattice, [len(space.fixed(lattice.groups[lot[0]])) for lot in lattice.classes])

    def __iter__(self):
        return iter(self.numbers)

    def __getitem__(self, at):
        return self.numbers[at]

    def __add__(self, other):
        return Marks(self.lattice, [left + right for left, right in zip(self.numbers, other.numbers)])

    def __mul__(self, other):
        return Marks(self.lattice, [left * right for left, right in zip(self.numbers, other.numbers)])

    def __eq__(self, other):
        return isinstance(other, Marks) and self.numbers == other.numbers

    def __lt__(self, other):
        # Each class that compares has an order too, so that sorted, min and max may take all values (L5).
        if not isinstance(other, Marks):
            return NotImplemented
        return self.numbers < other.numbers

    def counts(self):
        """Return how often each row of the mark table is taken to make up these marks."""
        table = mark_table(self.lattice)
        left = list(self.numbers)
        found = [0 for _ in left]
        # Only the rows from a class on have anything at its place, so the last class is settled first.
        for place in reversed(range(len(self.lattice.classes))):
            row = table[place]
            if left[place] < 0 or left[place] % row[place] != 0:
                raise BadMarks(self.numbers)
            found[place] = left[place] // row[place]
            left = [number - found[place] * item for number, item in zip(left, row)]
        return tuple(found)


def rests_of(lattice, group, other):
    """Return how many cosets of a group each member of another one moves to themselves."""
    # A coset with g stays if the other group, carried along by the inverse of g, is held.
    staying = [renaming for renaming in range(lattice.world.order)
               if lattice.holds(group, lattice.carried(other, renaming))]
    return len(staying) // len(lattice.groups[group])


def mark_table(lattice):
    """Return the mark table, a row for each class."""
    firsts = [lot[0] for lot in lattice.classes]
    return tuple([tuple([rests_of(lattice, group, other) for other in firsts]) for group in firsts])
