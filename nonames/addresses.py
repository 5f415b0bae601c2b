"""Addresses: where the structures of a kind are found again in its form."""

from nonames.coders import coder_of
from nonames.forms import Form, count_parts, inner_terms
from nonames.listing import built_structures
from nonames.plain import plain_structures


def atom_values(world, atom):
    """List the values of an atom in ascending order."""
    lists = [address_list(world, terms) for terms in inner_terms(atom)]
    return built_structures(atom, lists) if lists else plain_structures(world, atom)


def part_rows(world, atoms):
    """List the tuples that hold one value for each of the atoms, in ascending order."""
    # An atom without values beside others with very many leaves nothing that could be listed.
    if count_parts(world, atoms) == 0:
        return []
    found = [()]
    values = []
    for at, atom in enumerate(atoms):
        if at == 0 or atom != atoms[at - 1]:
            values = atom_values(world, atom)
        found = [row + (value,) for row in found for value in values]
    return found


def address_list(world, terms):
    """List the addresses of the form with these terms in ascending order."""
    found = []
    for place, (count, atoms) in enumerate(terms):
        rows = part_rows(world, atoms)
        if rows:
            found.extend([(place, copy, row) for copy in range(count) for row in rows])
    return found


def addresses_in(world, form):
    """Yield the addresses of a form in ascending order."""
    for address in address_list(world, form.terms):
        yield address


def address_of(world, kind, structure):
    """Return the address of a structure, or raise TooMany as Form.of_kind does."""
    # The form is made first, as it tells whether there are addresses at all.
    Form.of_kind(kind)
    coder = coder_of(world, kind)
    return coder.address(structure)


def structure_at(world, kind, address):
    """Return the structure of an address of the kind's form, or raise TooMany as Form.of_kind does."""
    Form.of_kind(kind)
    coder = coder_of(world, kind)
    return coder.structure(address)
