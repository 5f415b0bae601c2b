"""The structures of a kind, in ascending order."""

from nonames.choosing import lots_of, orders_of
from nonames.counting import count_structures
from nonames.kinds import inner_kinds
from nonames.plain import plain_structures


def map_list(sources, answers):
    """List the tuples that hold one of the answers for each of the sources."""
    found = [()]
    for _ in sources:
        found = [answered + (answer,) for answered in found for answer in answers]
    return found


def pairing_list(sources, answers):
    """List the tuples that hold each answer once, if there are as many answers as sources."""
    return orders_of(answers) if len(sources) == len(answers) else []


def built_structures(kind, lists):
    """List the structures of a built kind from the lists of its inner kinds."""
    tag = kind[0]
    if tag == "either":
        return [(0, left) for left in lists[0]] + [(1, right) for right in lists[1]]
    if tag == "both":
        return [(left, right) for left in lists[0] for right in lists[1]]
    if tag == "lots":
        return lots_of(lists[0], kind[2])
    if tag == "maps":
        return map_list(lists[0], lists[1])
    return pairing_list(lists[0], lists[1])


def uncounted_structures(world, kind):
    """List the structures in ascending order, however many there are."""
    inner = inner_kinds(kind)
    if not inner:
        return plain_structures(world, kind)
    return built_structures(kind, [uncounted_structures(world, part) for part in inner])


def list_structures(world, kind):
    """List the structures in ascending order, or raise TooMany as `count_structures` does."""
    count_structures(world, kind)
    return uncounted_structures(world, kind)
