"""Lots and orders of the members of a list."""


def lots_of(members, many):
    """List the lots of so many members of an ascending list, in ascending order."""
    items = list(members)
    found = [((), 0)]
    for left in reversed(range(many)):
        # So many members must still come behind the one that is taken.
        last = len(items) - left
        found = [(lot + (items[at],), at + 1) for lot, start in found for at in range(start, last)]
    return [lot for lot, _ in found]


def orders_of(members):
    """List the tuples that hold each member once, in the order in which the members stand in the list."""
    items = list(members)
    if not items:
        return [()]
    return [(item,) + row for at, item in enumerate(items) for row in orders_of(items[:at] + items[at + 1:])]
