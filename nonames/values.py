"""Texts of values, and where a value goes wrong that is not a structure."""

from nonames.checking import built_fault, is_structure
from nonames.errors import BadStructure
from nonames.kinds import inner_kinds
from nonames.listing import uncounted_structures
from nonames.plain import plain_structures
from nonames.texts import Reader


def format_value(value, *, spaced=False):
    """Return the text of a value, with one space after each comma if it is to be spaced."""
    if not isinstance(value, tuple):
        return str(value)
    comma = ", " if spaced else ","
    return "(" + comma.join([format_value(item, spaced=spaced) for item in value]) + ")"


def read_value(reader):
    """Read a value."""
    if reader.token() != "(":
        return reader.take_number()
    reader.take_opening()
    items = []
    if reader.token() != ")":
        items.append(read_value(reader))
        while reader.token() == ",":
            reader.take((",",))
            items.append(read_value(reader))
    reader.take_closing()
    return tuple(items)


def parse_value(text):
    """Return the value with this text, or raise BadText."""
    reader = Reader(text)
    value = read_value(reader)
    reader.finish()
    return value


def listed_path(value, listed):
    """Return the path to the first place where a value differs from all values of a list."""
    if not isinstance(value, tuple):
        return ()
    alike = [other for other in listed if isinstance(other, tuple) and len(other) == len(value)]
    if not alike:
        return ()
    # The value is not in the list, so some place is reached at which none of them agrees any more.
    at = 0
    while value[at] in [other[at] for other in alike]:
        alike = [other for other in alike if other[at] == value[at]]
        at += 1
    return (at,) + listed_path(value[at], [other[at] for other in alike])


def faulty_kind(kind, value, at):
    """Return the kind that the item at a place of a value ought to be of."""
    tag = kind[0]
    if tag == "either":
        return kind[1 + value[0]]
    if tag == "both":
        return kind[1 + at]
    return kind[1] if tag == "lots" else kind[2]


def fault_path(world, kind, value):
    """Return the path to the first fault of a value, or None if it is a structure of the kind."""
    inner = inner_kinds(kind)
    if not inner:
        listed = plain_structures(world, kind)
        return None if value in listed else listed_path(value, listed)
    path = built_fault(kind, value, [uncounted_structures(world, part) for part in inner])
    if path is None or path == () or (kind[0] == "either" and path == (0,)):
        return path
    at = path[0]
    deeper = fault_path(world, faulty_kind(kind, value, at), value[at])
    # An item that is a structure itself is at fault only because of the items before it.
    return path if deeper is None else path + deeper


def parse_structure(world, kind, text):
    """Return the structure of the kind with this text, or raise BadText or else BadStructure."""
    value = parse_value(text)
    if not is_structure(world, kind, value):
        raise BadStructure(value)
    return value
