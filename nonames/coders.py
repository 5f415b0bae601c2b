"""Coders: what leads from the structures of one kind to their addresses and back."""

from nonames.forms import Form, map_factor
from nonames.joining import FormProduct, FormSum
from nonames.kinds import inner_kinds
from nonames.listing import uncounted_structures


class NamedCoder:
    """The coder of `named`."""

    def address(self, structure):
        """Return the address of a structure."""
        return (0, structure, ())

    def structure(self, address):
        """Return the structure of an address."""
        return address[1]


class PlainCoder:
    """The coder of another plain kind."""

    def address(self, structure):
        """Return the address of a structure."""
        return (0, 0, (structure,))

    def structure(self, address):
        """Return the structure of an address."""
        return address[2][0]


class EitherCoder:
    """The coder of `either`, from the inner kinds with their addresses."""

    def __init__(self, inner):
        self._inner = inner
        self._sum = FormSum(inner[0].form, inner[1].form)

    def address(self, structure):
        """Return the address of a structure."""
        side, value = structure
        if side == 0:
            return self._sum.from_left(self._inner[0].address(value))
        return self._sum.from_right(self._inner[1].address(value))

    def structure(self, address):
        """Return the structure of an address."""
        side, origin = self._sum.origin(address)
        return (side, self._inner[side].structure(origin))


class BothCoder:
    """The coder of `both`, from the inner kinds with their addresses."""

    def __init__(self, inner):
        self._inner = inner
        self._product = FormProduct(inner[0].form, inner[1].form)

    def address(self, structure):
        """Return the address of a structure."""
        left, right = structure
        return self._product.together(self._inner[0].address(left), self._inner[1].address(right))

    def structure(self, address):
        """Return the structure of an address."""
        left, right = self._product.apart(address)
        return (self._inner[0].structure(left), self._inner[1].structure(right))


class LotsCoder:
    """The coder of `lots`, from the inner kind with its addresses."""

    def __init__(self, members, many):
        self._members = members
        self._many = many

    def address(self, structure):
        """Return the address of a structure."""
        addresses = sorted([self._members.address(member) for member in structure])
        if self._many == 0:
            return (0, 0, ())
        return addresses[0] if self._many == 1 else (0, 0, (tuple(addresses),))

    def structure(self, address):
        """Return the structure of an address."""
        if self._many == 0:
            return ()
        addresses = (address,) if self._many == 1 else address[2][0]
        return tuple(sorted([self._members.structure(one) for one in addresses]))


class PairingCoder:
    """The coder of `pairing`, from the inner kinds with their addresses."""

    def __init__(self, sources, answers):
        self._answers = answers
        self._order = sources.in_order()

    def address(self, structure):
        """Return the address of a structure."""
        return (0, 0, (tuple([self._answers.address(structure[at]) for at in self._order]),))

    def structure(self, address):
        """Return the structure of an address."""
        found = {at: self._answers.structure(one) for at, one in zip(self._order, address[2][0])}
        return tuple([found[at] for at in range(len(self._order))])


def factor_keys(form):
    """List the place of the term and the copy for each factor of `maps`, from the form of its sources."""
    return [(place, copy) for place, (count, _) in enumerate(form) for copy in range(count)]


class MapsCoder:
    """The coder of `maps`, from the inner kinds with their addresses."""

    def __init__(self, sources, answers):
        self._answers = answers
        self._size = len(sources.structures)
        keys = factor_keys(sources.form)
        atoms = [sources.form.terms[place][1] for place, _ in keys]
        self._single = [not row for row in atoms]
        self._groups = [[at for at in sources.in_order() if sources.addresses[at][:2] == key] for key in keys]
        self._products = []
        whole = Form.named(1)
        for row in atoms:
            product = FormProduct(whole, Form(map_factor(row, answers.form.terms)))
            self._products.append(product)
            whole = product.whole

    def address(self, structure):
        """Return the address of a structure."""
        found = (0, 0, ())
        for product, single, group in zip(self._products, self._single, self._groups):
            addresses = tuple([self._answers.address(structure[at]) for at in group])
            found = product.together(found, addresses[0] if single else (0, 0, (addresses,)))
        return found

    def structure(self, address):
        """Return the structure of an address."""
        found = {}
        left = address
        for k in reversed(range(len(self._products))):
            left, factor = self._products[k].apart(left)
            addresses = (factor,) if self._single[k] else factor[2][0]
            for at, one in zip(self._groups[k], addresses):
                found[at] = self._answers.structure(one)
        return tuple([found[at] for at in range(self._size)])


class Known:
    """All structures of an inner kind, with their addresses."""

    def __init__(self, world, kind):
        coder = coder_of(world, kind)
        self.form = Form.of_kind(kind)
        self.structures = uncounted_structures(world, kind)
        self.addresses = [coder.address(structure) for structure in self.structures]

    def address(self, structure):
        """Return the address of a structure."""
        return self.addresses[self.structures.index(structure)]

    def structure(self, address):
        """Return the structure of an address."""
        return self.structures[self.addresses.index(address)]

    def in_order(self):
        """Return the numbers of the structures, in ascending order of their addresses."""
        return sorted(list(range(len(self.structures))), key=lambda at: self.addresses[at])


def coder_of(world, kind):
    """Return the coder of a kind whose inner kinds can all be listed."""
    tag = kind[0]
    inner = [Known(world, part) for part in inner_kinds(kind)]
    if tag == "named":
        return NamedCoder()
    if tag == "either":
        return EitherCoder(inner)
    if tag == "both":
        return BothCoder(inner)
    if tag == "lots":
        return LotsCoder(inner[0], kind[2])
    if tag == "maps":
        return MapsCoder(inner[0], inner[1])
    if tag == "pairing":
        return PairingCoder(inner[0], inner[1])
    return PlainCoder()
