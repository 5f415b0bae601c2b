"""How many structures a kind has."""

from math import comb, factorial
from nonames.errors import TooMany
from nonames.kinds import inner_kinds
from nonames.plain import plain_structures

MOST = 100


def power_up_to(base, exponent, most):
    """Return the power, or some number above `most`, if that is not None, if the power is above it."""
    number = 1
    for _ in range(exponent):
        # Higher powers of such a base only grow; their digits would be too many.
        if most is not None and number > most:
            return number
        number = number * base
    return number


def count_built(kind, counts, most):
    """Count a built kind whose inner kinds have so many structures.

    A number above `most`, if that is not None, may be returned as any other number above `most`.
    """
    tag = kind[0]
    if tag == "either":
        return counts[0] + counts[1]
    if tag == "both":
        return counts[0] * counts[1]
    if tag == "lots":
        return comb(counts[0], kind[2])
    if tag == "maps":
        return power_up_to(counts[1], counts[0], most)
    return factorial(counts[0]) if counts[0] == counts[1] else 0


def count_kind(world, kind, counts, most):
    """Count a kind whose inner kinds have so many structures, as `count_built` does."""
    if inner_kinds(kind):
        return count_built(kind, counts, most)
    return len(plain_structures(world, kind))


def count_structures(world, kind):
    """Return the number of structures, or raise TooMany with the first kind that has too many."""
    counts = [count_structures(world, inner) for inner in inner_kinds(kind)]
    number = count_kind(world, kind, counts, MOST)
    if number > MOST:
        raise TooMany(kind)
    return number
