"""Bridges: from the structures of a kind to those of a kind that is the same, written otherwise."""

from nonames.addresses import address_of, structure_at
from nonames.errors import NoBridge
from nonames.forms import Form


def same_form(kind, other):
    """Tell whether the forms of two kinds are equal, or raise TooMany as Form.of_kind does."""
    return Form.of_kind(kind) == Form.of_kind(other)


def bridge(world, kind, other, structure):
    """Return the structure of the other kind that has the same address, or raise TooMany or else NoBridge."""
    if not same_form(kind, other):
        raise NoBridge((kind, other))
    return structure_at(world, other, address_of(world, kind, structure))
