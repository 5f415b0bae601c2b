"""Books of kinds with names."""

from nonames.errors import BadEntry, UnknownName
from nonames.powers import Power, makes_with
from nonames.spaces import Space

LONGEST_NAME = 12


def is_name(name):
    """Tell whether a string can be the name of an entry."""
    if not 1 <= len(name) <= LONGEST_NAME:
        return False
    return all(["a" <= letter <= "z" for letter in name])


def is_step(strengths, start, goal):
    """Tell whether one strength is held by another one, with no third one between them."""
    if start == goal or not strengths[goal].holds(strengths[start]):
        return False
    return not any([strengths[goal].holds(middle) and middle.holds(strengths[start])
                    for at, middle in enumerate(strengths) if at != start and at != goal])


class KindBook:
    """A book of kinds with names, for the world of a lattice."""

    def __init__(self, lattice):
        self.lattice = lattice
        self._kinds = {}
        self._powers = {}

    def __setitem__(self, name, kind):
        if not is_name(name):
            raise BadEntry(name)
        power = Power.of_space(self.lattice, Space(self.lattice.world, kind))
        self._kinds[name] = kind
        self._powers[name] = power

    def __getitem__(self, name):
        if name not in self._kinds:
            raise UnknownName(name)
        return self._kinds[name]

    def __contains__(self, name):
        return name in self._kinds

    def __iter__(self):
        return iter(self._kinds)

    def _powers_of(self, names):
        """Return the powers of these names, in their order."""
        for name in names:
            if name not in self._powers:
                raise UnknownName(name)
        return [self._powers[name] for name in names]

    def _strengths(self, helpers):
        """Return pairs of a power and all names that are so strong with the helpers.

        Two kinds make each other exactly if their powers share the same unhelped classes.
        """
        unhelped = Power.unhelped(self.lattice, helpers)
        strengths = {}
        names = {}
        for name in list(self._kinds):
            strength = self._powers[name] & unhelped
            names[strength.classes] = names.get(strength.classes, ()) + (name,)
            strengths[strength.classes] = strength
        return [(strengths[classes], names[classes]) for classes in names]

    def makes(self, name, other, *, helpers=()):
        """Tell whether one kind makes another one with the helpers."""
        first, second = self._powers_of((name, other))
        return makes_with(first, second, Power.unhelped(self.lattice, helpers))

    def refusal(self, name, other, *, helpers=()):
        """Return the least group that keeps one kind from making another one, or None."""
        first, second = self._powers_of((name, other))
        common = first & Power.unhelped(self.lattice, helpers)
        for number in common.group_numbers():
            if self.lattice.class_of(number) not in second:
                return number
        return None

    def alike(self, *, helpers=()):
        """Return the lots of equally strong names, in the order of the first entries."""
        return [names for _, names in self._strengths(helpers)]

    def steps(self, *, helpers=()):
        """Return the pairs of places of `alike` between which no third one lies."""
        strengths = [strength for strength, _ in self._strengths(helpers)]
        return [(start, goal) for start in range(len(strengths)) for goal in range(len(strengths))
                if is_step(strengths, start, goal)]

    def together(self, *names):
        """Return the power of the classes that are in the powers of all these kinds."""
        power = Power.full(self.lattice)
        for other in self._powers_of(names):
            power = power & other
        return power

    def either_of(self, *names):
        """Return the power of the classes that are in the power of at least one of these kinds."""
        power = Power(self.lattice, ())
        for other in self._powers_of(names):
            power = power | other
        return power
