"""Whether a value is a structure of a kind."""

from nonames.kinds import inner_kinds
from nonames.listing import uncounted_structures
from nonames.plain import plain_structures


def is_row_of(value, many):
    """Tell whether a value is a tuple of so many items."""
    return isinstance(value, tuple) and len(value) == many


def either_fault(value, lists):
    """Return what `built_fault` returns for a kind `either`."""
    if not is_row_of(value, 2):
        return ()
    if value[0] not in (0, 1):
        return (0,)
    return None if value[1] in lists[value[0]] else (1,)


def item_lists(kind, lists):
    """Return, for each item of the structures of a built kind but `either`, what it may be."""
    tag = kind[0]
    if tag == "both":
        return lists
    if tag == "lots":
        return [lists[0] for _ in range(kind[2])]
    return [lists[1] for _ in lists[0]]


def built_fault(kind, value, lists):
    """Return the place of the first item with a fault, as a tuple, or None if there is none.

    The tuple is empty if the fault is in the value as a whole. `lists` holds the structures of the inner kinds.
    """
    tag = kind[0]
    if tag == "either":
        return either_fault(value, lists)
    allowed = item_lists(kind, lists)
    if not is_row_of(value, len(allowed)):
        return ()
    if tag == "pairing" and len(lists[0]) != len(lists[1]):
        return ()
    for at, item in enumerate(value):
        if item not in allowed[at]:
            return (at,)
        if tag == "lots" and at > 0 and item <= value[at - 1]:
            return (at,)
        if tag == "pairing" and item in value[:at]:
            return (at,)
    return None


def is_structure(world, kind, value):
    """Tell whether a value is a structure of the kind, which may have too many to be listed."""
    inner = inner_kinds(kind)
    if not inner:
        return value in plain_structures(world, kind)
    return built_fault(kind, value, [uncounted_structures(world, part) for part in inner]) is None
