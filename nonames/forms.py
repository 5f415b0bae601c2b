"""Forms: kinds as sums of products of atoms, in whatever order they are written."""

from nonames.counting import count_built
from nonames.errors import TooMany
from nonames.kinds import inner_kinds
from nonames.plain import plain_structures

MOST_TERMS = 100
MOST_FACTORS = 100

# The terms of the form of `("named", 1)`.
UNIT = ((1, ()),)


def named_terms(count):
    """Return the terms of the form of `("named", count)`."""
    return ((count, ()),) if count > 0 else ()


def collected(terms):
    """Return terms ascending by their atoms, with those of equal atoms made one."""
    found = []
    for atoms, count in sorted([(atoms, count) for count, atoms in terms]):
        if found and found[-1][1] == atoms:
            found[-1] = (found[-1][0] + count, atoms)
        else:
            found.append((count, atoms))
    return tuple(found)


def merged_atoms(atoms, others):
    """Return the atoms of both, ascending."""
    return tuple(sorted(atoms + others))


def product_terms(terms, others):
    """Return the terms of the product of two forms."""
    return collected([(count * many, merged_atoms(atoms, more)) for count, atoms in terms for many, more in others])


def map_factor(atoms, answers):
    """Return the terms of a factor of `maps`, for a source term with these atoms and these terms of answers."""
    return ((1, (("maps", ((1, atoms),), answers),)),) if atoms else answers


def map_terms(kind, sources, answers):
    """Return the terms of a kind `maps` from those of its inner kinds, or raise TooMany."""
    if sum([count for count, _ in sources]) > MOST_FACTORS:
        raise TooMany(kind)
    terms = UNIT
    for count, atoms in sources:
        for _ in range(count):
            terms = product_terms(terms, map_factor(atoms, answers))
            # Further factors make no fewer terms: one without any term would be among the first ones.
            if len(terms) > MOST_TERMS:
                raise TooMany(kind)
    return terms


def lots_terms(terms, many):
    """Return the terms of a kind `lots` from those of its inner kind."""
    if many == 0:
        return UNIT
    return terms if many == 1 else ((1, (("lots", terms, many),)),)


def joined_terms(kind, inner):
    """Return the terms of a kind from those of its inner kinds."""
    tag = kind[0]
    if tag == "named":
        return named_terms(kind[1])
    if tag == "either":
        return collected(inner[0] + inner[1])
    if tag == "both":
        return product_terms(inner[0], inner[1])
    if tag == "lots":
        return lots_terms(inner[0], kind[2])
    if tag == "maps":
        return map_terms(kind, inner[0], inner[1])
    if tag == "pairing":
        return ((1, (("pairing", inner[0], inner[1]),)),)
    return ((1, (kind,)),)


def kind_terms(kind):
    """Return the terms of the form of a kind, or raise TooMany."""
    terms = joined_terms(kind, [kind_terms(part) for part in inner_kinds(kind)])
    if len(terms) > MOST_TERMS:
        raise TooMany(kind)
    return terms


def inner_terms(atom):
    """Return the terms of the forms inside an atom, from left to right; none for a plain kind."""
    if atom[0] == "lots":
        return (atom[1],)
    return (atom[1], atom[2]) if atom[0] in ("maps", "pairing") else ()


def count_values(world, atom):
    """Return how many values an atom can have in an address."""
    counts = [count_addresses(world, terms) for terms in inner_terms(atom)]
    return count_built(atom, counts, None) if counts else len(plain_structures(world, atom))


def count_parts(world, atoms):
    """Return how many tuples there are that hold a value for each of the atoms."""
    number = 1
    values = 1
    for at, atom in enumerate(atoms):
        # Equal atoms stand side by side, so each need be counted only once.
        if at == 0 or atom != atoms[at - 1]:
            values = count_values(world, atom)
        number = number * values
    return number


def count_addresses(world, terms):
    """Return the number of addresses of the form with these terms."""
    return sum([count * count_parts(world, atoms) for count, atoms in terms])


class Form:
    """A sum of products of atoms: pairs of a count and atoms, ascending by their atoms."""

    def __init__(self, terms):
        self.terms = tuple(terms)

    @classmethod
    def named(cls, count):
        """Return the form of so many named things."""
        return cls(named_terms(count))

    @classmethod
    def of_kind(cls, kind):
        """Return the form of a kind, or raise TooMany with the first kind that has too many terms or factors."""
        return cls(kind_terms(kind))

    def __add__(self, other):
        return Form(collected(self.terms + other.terms))

    def __mul__(self, other):
        return Form(product_terms(self.terms, other.terms))

    def __pow__(self, other):
        terms = UNIT
        for _ in range(other):
            terms = product_terms(terms, self.terms)
        return Form(terms)

    def __eq__(self, other):
        return isinstance(other, Form) and self.terms == other.terms

    def __lt__(self, other):
        # Each class that compares has an order too, so that sorted, min and max may take all values (L5).
        if not isinstance(other, Form):
            return NotImplemented
        return self.terms < other.terms

    def __iter__(self):
        return iter(self.terms)

    def __getitem__(self, at):
        return sum([count for count, atoms in self.terms if atoms == at])

    def __call__(self, world):
        return count_addresses(world, self.terms)
