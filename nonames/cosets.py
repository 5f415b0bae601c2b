"""Cosets of groups."""


def coset_of(world, group, number):
    """Return the coset of the group with the renaming."""
    return tuple(sorted([world.then(member, number) for member in group]))


def cosets_in(world, part, group):
    """List the cosets of `part` within `group`, ordered by their least members."""
    found = []
    seen = {}
    for member in group:
        if member not in seen:
            coset = coset_of(world, part, member)
            found.append(coset)
            for other in coset:
                seen[other] = True
    return found
