"""The ways of addresses into the sum and the product of two forms, and back."""

from nonames.forms import merged_atoms


def place_of(form, atoms):
    """Return the place of the term of a form that has these atoms."""
    return [others for _, others in form].index(atoms)


class FormSum:
    """The sum of two forms."""

    def __init__(self, left, right):
        self.left = left
        self.right = right
        self.whole = left + right

    def from_left(self, address):
        """Return the address in the sum for an address of the left form."""
        place, copy, parts = address
        return (place_of(self.whole, self.left.terms[place][1]), copy, parts)

    def from_right(self, address):
        """Return the address in the sum for an address of the right form."""
        place, copy, parts = address
        atoms = self.right.terms[place][1]
        return (place_of(self.whole, atoms), self.left[atoms] + copy, parts)

    def origin(self, address):
        """Return 0 or 1 for the left or right form, and the address in it that leads to one in the sum."""
        place, copy, parts = address
        atoms = self.whole.terms[place][1]
        before = self.left[atoms]
        if copy < before:
            return (0, (place_of(self.left, atoms), copy, parts))
        return (1, (place_of(self.right, atoms), copy - before, parts))


def pair_starts(left, right, whole):
    """Return a dict from each pair of places to the place in the product and the count before the pair there."""
    products = [atoms for _, atoms in whole]
    before = [0 for _ in products]
    found = {}
    for place, (count, atoms) in enumerate(left):
        for at, (many, others) in enumerate(right):
            goal = products.index(merged_atoms(atoms, others))
            found[(place, at)] = (goal, before[goal])
            before[goal] = before[goal] + count * many
    return found


class FormProduct:
    """The product of two forms."""

    def __init__(self, left, right):
        self.left = left
        self.right = right
        self.whole = left * right
        self._starts = pair_starts(left, right, self.whole)

    def _part_order(self, place, at):
        """Return the order in which the parts of both addresses stand in the product."""
        atoms = self.left.terms[place][1] + self.right.terms[at][1]
        return sorted(list(range(len(atoms))), key=lambda part: atoms[part])

    def together(self, address, other):
        """Return the address in the product for an address of the left and one of the right form."""
        place, copy, parts = address
        at, many, more = other
        goal, start = self._starts[(place, at)]
        items = parts + more
        row = tuple([items[part] for part in self._part_order(place, at)])
        return (goal, start + copy * self.right.terms[at][0] + many, row)

    def _pair_at(self, goal, copy):
        """Return the pair of places whose products of addresses hold this one, and its place among them."""
        for (place, at), (other, start) in self._starts.items():
            within = copy - start
            if other == goal and 0 <= within < self.left.terms[place][0] * self.right.terms[at][0]:
                return (place, at, within)
        return None

    def apart(self, address):
        """Return the addresses of the left and the right form that lead to one in the product."""
        goal, copy, row = address
        place, at, within = self._pair_at(goal, copy)
        many = self.right.terms[at][0]
        items = list(row)
        for part, item in zip(self._part_order(place, at), row):
            items[part] = item
        middle = len(self.left.terms[place][1])
        return ((place, within // many, tuple(items[:middle])), (at, within % many, tuple(items[middle:])))
