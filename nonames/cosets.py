"""Cosets of groups."""


def coset_of(world, group, number):
    """Return the coset of the group with the renaming."""
    return tuple(sorted([world.then(member, number) for member in group]))


def cosets_in(world, part, group):
    """List the cosets of `part` within `group`, ordered by their least members."""
    found = []
    seen = {}
    for member in group:
        if member not in seen:
            coset = coset_of(world, part, member)
            found.append(coset)
            for other in coset:
                seen[other] = True
    return found


def made_thing(world, coset):
    """Return the renamings of a coset, written as tuples, in ascending order."""
    return tuple([world.renamings[number] for number in coset])


def part_rows(world, group, part, start):
    """Return, for each member of a group, the numbers of the cosets to which it moves those of one part.

    The cosets are numbered from `start`.
    """
    cosets = cosets_in(world, part, group)
    places = {member: start + at for at, coset in enumerate(cosets) for member in coset}
    return [tuple([places[world.then(coset[0], member)] for coset in cosets]) for member in group]


def coset_rows(world, group, parts):
    """Return, for each member of a group, the numbers of the cosets to which it moves those of all parts."""
    rows = [() for _ in group]
    for part in parts:
        moved = part_rows(world, group, part, len(rows[0]))
        rows = [row + more for row, more in zip(rows, moved)]
    return rows
