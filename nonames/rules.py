"""Rules: an answer to each structure of a kind that treats all things alike."""

from nonames.errors import BadRule
from nonames.moves import spread


def same_sizes(source, goal):
    """Tell whether the worlds of two spaces have the same sizes."""
    return source.world.sizes == goal.world.sizes


def is_allowed(source, goal, number, answer):
    """Tell whether an integer is the number of an allowed answer for the structure of a number."""
    if not 0 <= answer < goal.size:
        return False
    return all([goal.moved(answer, renaming) == answer for renaming in source.stabilizer(number)])


def are_choices(source, goal, choices):
    """Tell whether these integers are the choices of a rule."""
    orbits = source.orbits()
    if not same_sizes(source, goal) or len(choices) != len(orbits):
        return False
    return all([is_allowed(source, goal, orbit[0], choice) for orbit, choice in zip(orbits, choices)])


def is_table(source, goal, row):
    """Tell whether these integers are the table of a rule."""
    if not same_sizes(source, goal) or len(row) != source.size:
        return False
    if not all([0 <= answer < goal.size for answer in row]):
        return False
    return all([row[moved[number]] == answers[row[number]]
                for moved, answers in zip(source.moves, goal.moves) for number in range(source.size)])


class Rule:
    """A rule from the kind of one space to the kind of another one."""

    def __init__(self, source, goal, choices):
        self.source = source
        self.goal = goal
        self.choices = tuple(choices)
        if not are_choices(source, goal, self.choices):
            raise BadRule(self.choices)
        self.table = spread(source, goal, self.choices)
        self._rank = (self.choices, source.kind, goal.kind, source.world.sizes)

    @classmethod
    def from_table(cls, source, goal, table):
        """Return the rule that has this table."""
        row = tuple(table)
        if not is_table(source, goal, row):
            raise BadRule(row)
        return cls(source, goal, [row[orbit[0]] for orbit in source.orbits()])

    @classmethod
    def identity(cls, space):
        """Return the rule that answers each structure by itself."""
        return cls(space, space, [orbit[0] for orbit in space.orbits()])

    def __call__(self, structure):
        return self.goal.structures[self.table[self.source.number(structure)]]

    def __rshift__(self, other):
        if self.goal.kind != other.source.kind or not same_sizes(self.goal, other.source):
            raise BadRule(other.choices)
        return Rule(self.source, other.goal, [other.table[choice] for choice in self.choices])

    def __eq__(self, other):
        return isinstance(other, Rule) and self._rank == other._rank

    def __lt__(self, other):
        # Each class that compares has an order too, so that sorted, min and max may take all values (L5).
        if not isinstance(other, Rule):
            return NotImplemented
        return self._rank < other._rank
