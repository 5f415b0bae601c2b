"""Groups of renamings."""


def generated(world, numbers):
    """Return the least group that holds the renamings of these numbers."""
    members = {0: True}
    waiting = [0]
    while waiting:
        member = waiting.pop()
        for number in numbers:
            after = world.then(member, number)
            if after not in members:
                members[after] = True
                waiting.append(after)
    return tuple(sorted(list(members)))


def is_group(world, members):
    """Tell whether these integers are a group, in ascending order."""
    row = list(members)
    if 0 not in row or row != sorted(set(row)):
        return False
    if row[0] < 0 or row[-1] >= world.order:
        return False
    return all([world.then(first, second) in row for first in row for second in row])


def carried_group(world, group, number):
    """Return the group, carried along by a renaming."""
    back = world.inverse(number)
    return tuple(sorted([world.then(world.then(back, member), number) for member in group]))


def with_powers(world, group, number):
    """Return the group of the members of a group, followed by a renaming any number of times.

    The renaming must carry the group along to itself.
    """
    members = list(group)
    power = number
    while power not in group:
        members = members + [world.then(member, power) for member in group]
        power = world.then(power, number)
    return tuple(sorted(members))


def grown_groups(world, group):
    """List the greater groups to which one further renaming leads."""
    return [with_powers(world, group, number) for number in range(world.order)
            if number not in group and carried_group(world, group, number) == group]


def all_groups(world):
    """List all groups, those with fewer members first."""
    found = {(0,): True}
    waiting = [(0,)]
    while waiting:
        group = waiting.pop()
        for grown in grown_groups(world, group):
            if grown not in found:
                found[grown] = True
                waiting.append(grown)
    return sorted(list(found), key=lambda members: (len(members), members))
