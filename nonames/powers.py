"""Powers: the order of kinds by what they make."""

from nonames.errors import BadPower
from nonames.helped import unhelped_groups
from nonames.kindmarks import kind_marks


def classes_beneath(lattice, place):
    """Return the classes that lie beneath a class, in ascending order."""
    held = lattice.held(lattice.first_of(place))
    return sorted({lattice.class_of(number) for number in held})


def is_power(lattice, classes):
    """Tell whether a tuple of integers is a power."""
    if list(classes) != sorted(set(classes)):
        return False
    if not all([0 <= place < len(lattice.classes) for place in classes]):
        return False
    return all([below in classes for place in classes for below in classes_beneath(lattice, place)])


class Power:
    """A lot of classes that holds, with each class, all classes beneath it."""

    def __init__(self, lattice, classes):
        self.lattice = lattice
        self.classes = tuple(classes)
        self._sizes = lattice.world.sizes
        self._rank = (self.classes, self._sizes)
        if not is_power(lattice, self.classes):
            raise BadPower(self.classes)

    @classmethod
    def of_space(cls, lattice, space):
        """Return the power of the kind of a space."""
        return cls(lattice, [place for place, lot in enumerate(lattice.classes)
                             if space.fixed(lattice.groups[lot[0]])])

    @classmethod
    def of_kind(cls, lattice, kind):
        """Return the power of a kind, which may have too many structures for a space."""
        marks = list(kind_marks(lattice, kind))
        return cls(lattice, [place for place, mark in enumerate(marks) if mark > 0])

    @classmethod
    def beneath(cls, lattice, classes):
        """Return the least power that holds these classes."""
        return cls(lattice, sorted({below for place in classes for below in classes_beneath(lattice, place)}))

    @classmethod
    def full(cls, lattice):
        """Return the power of all classes."""
        return cls(lattice, list(range(len(lattice.classes))))

    @classmethod
    def unhelped(cls, lattice, helpers):
        """Return the power of the classes of the groups that the helpers do not help."""
        return cls(lattice, sorted({lattice.class_of(number) for number in unhelped_groups(lattice, helpers)}))

    @property
    def tops(self):
        """The classes that lie beneath no other class of this power."""
        return tuple([place for place in self.classes
                      if not any([other != place and place in classes_beneath(self.lattice, other)
                                  for other in self.classes])])

    def _check_same_world(self, other):
        """Raise the error if the other power is one of a world of other sizes."""
        if self._sizes != other._sizes:
            raise BadPower(other.classes)

    def __and__(self, other):
        self._check_same_world(other)
        return Power(self.lattice, [place for place in self.classes if place in other.classes])

    def __or__(self, other):
        self._check_same_world(other)
        return Power(self.lattice, sorted(set(self.classes + other.classes)))

    def __rshift__(self, other):
        self._check_same_world(other)
        missing = [place for place in self.classes if place not in other.classes]
        return Power(self.lattice, [place for place in range(len(self.lattice.classes))
                                    if not any([below in missing for below in classes_beneath(self.lattice, place)])])

    def __invert__(self):
        return self >> Power(self.lattice, ())

    def __eq__(self, other):
        return isinstance(other, Power) and self._rank == other._rank

    def __lt__(self, other):
        # Each class that compares has an order too, so that sorted, min and max may take all values (L5).
        if not isinstance(other, Power):
            return NotImplemented
        return self._rank < other._rank

    def __contains__(self, place):
        return place in self.classes

    def __bool__(self):
        return bool(self.classes)

    def holds(self, other):
        """Tell whether each class of another power is in this one."""
        self._check_same_world(other)
        return all([place in self.classes for place in other.classes])

    def group_numbers(self):
        """Return the numbers of all groups whose classes are in this power."""
        return tuple(sorted([number for place in self.classes for number in self.lattice.classes[place]]))


def makes_with(power, other, unhelped):
    """Tell whether kinds of one power make those of another with helpers that leave these unhelped."""
    return other.holds(power & unhelped)
