"""The structures of the plain kinds."""

from nonames.choosing import lots_of, orders_of


def named_list(world, kind):
    """List the structures of `named`."""
    return list(range(kind[1]))


def one_list(world, kind):
    """List the structures of `one`."""
    return list(world.things_of(kind[1]))


def lot_list(world, kind):
    """List the structures of `lot`."""
    return lots_of(world.things_of(kind[1]), kind[2])


def row_list(world, kind):
    """List the structures of `row`."""
    return orders_of(world.things_of(kind[1]))


def round_list(world, kind):
    """List the structures of `round`."""
    things = world.things_of(kind[1])
    # The least thing comes first, so that only the others change places.
    return [things[:1] + row for row in orders_of(things[1:])]


def hand_list(world, kind):
    """List the structures of `hand`."""
    return [0, 1] if len(world.things_of(kind[1])) >= 2 else [0]


def without_one(members, member):
    """Return the members, with one of those that equal this member left out."""
    at = members.index(member)
    return members[:at] + members[at + 1:]


def partings(things, sizes):
    """List the ways to part things into lots of these sizes, which may stand in any order."""
    if not things:
        return [] if sizes else [()]
    found = []
    for size in sorted(set(sizes)):
        for others in lots_of(things[1:], size - 1):
            chosen = (things[0],) + others
            left = tuple([thing for thing in things if thing not in chosen])
            for lots in partings(left, without_one(sizes, size)):
                found.append((chosen,) + lots)
    return sorted(found)


def parts_list(world, kind):
    """List the structures of `parts`."""
    return partings(world.things_of(kind[1]), kind[2])


def web_list(world, kind):
    """List the structures of `web`."""
    found = [()]
    for pair in lots_of(world.things_of(kind[1]), 2):
        found = found + [web + (pair,) for web in found]
    return sorted(found)


def is_joined(things, pairs):
    """Tell whether each thing can be reached from the first one along pairs."""
    reached = [things[0]]
    at = 0
    while at < len(reached):
        for pair in pairs:
            if reached[at] in pair:
                other = pair[0] + pair[1] - reached[at]
                if other not in reached:
                    reached.append(other)
        at += 1
    return len(reached) == len(things)


def tree_list(world, kind):
    """List the structures of `tree`."""
    things = world.things_of(kind[1])
    if not things:
        return []
    webs = lots_of(lots_of(things, 2), len(things) - 1)
    return [web for web in webs if is_joined(things, web)]


LISTS = {
    "named": named_list,
    "one": one_list,
    "lot": lot_list,
    "row": row_list,
    "round": round_list,
    "hand": hand_list,
    "parts": parts_list,
    "web": web_list,
    "tree": tree_list,
}


def plain_structures(world, kind):
    """List the structures of a plain kind in ascending order."""
    lister = LISTS[kind[0]]
    return lister(world, kind)
