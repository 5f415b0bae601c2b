"""Sizes of picks: which ones help which groups, and which are enough."""

from nonames.choosing import lots_of


def own_sizes(lattice, base, top):
    """List the sizes up to `top` that are sums of ratios of a group to others that it holds."""
    ratios = [lattice.ratio(base, held) for held in lattice.held(base) if held != base]
    reached = [True] + [False for _ in range(top)]
    for size in range(1, top + 1):
        reached[size] = any([ratio <= size and reached[size - ratio] for ratio in ratios])
    return [size for size in range(1, top + 1) if reached[size]]


def sizes_by_group(lattice, numbers, top):
    """Return a dict from each of these groups to the ascending tuple of the sizes up to `top` that help it."""
    own = {}
    for number in numbers:
        for base in lattice.held(number):
            if base not in own:
                own[base] = own_sizes(lattice, base, top)
    return {group: tuple(sorted({size for held in lattice.held(group) for size in own[held]})) for group in numbers}


def reachable_sizes(lattice, number, *, top=12):
    """Return all sizes up to `top` that help the group."""
    found = sizes_by_group(lattice, (number,), top)
    return found[number]


def unmet_group(lattice, start, goal, sizes):
    """Return the least group of the start that is not in the goal and that no size helps, or None."""
    wanted = [number for number in start if number not in goal]
    helping = sizes_by_group(lattice, wanted, max(sizes, default=0))
    for number in wanted:
        if not any([size in helping[number] for size in sizes]):
            return number
    return None


def sizes_enough(lattice, start, goal, sizes):
    """Tell whether each group of the start that is not in the goal is helped by one of the sizes."""
    return unmet_group(lattice, start, goal, sizes) is None


def meets_all(lot, needs):
    """Tell whether a lot of sizes holds one of each of the needs."""
    return all([any([size in need for size in lot]) for need in needs])


def holds_one(lot, lots):
    """Tell whether a lot of sizes holds all sizes of some other one."""
    return any([all([size in lot for size in other]) for other in lots])


def least_sizes(lattice, start, goal, *, top=12):
    """List the least lots of sizes from 2 to `top` that are enough, those with fewer sizes first."""
    wanted = [number for number in start if number not in goal]
    helping = sizes_by_group(lattice, wanted, top)
    needs = sorted({helping[number] for number in wanted})
    sizes = list(range(2, top + 1))
    found = []
    for many in range(len(sizes) + 1):
        enough = [lot for lot in lots_of(sizes, many) if meets_all(lot, needs)]
        # Of several lots with equally many sizes none holds another one.
        found = found + [lot for lot in enough if not holds_one(lot, found)]
    return found


def is_needless(size, sizes, helping):
    """Tell whether another size helps wherever a size helps; `helping` has the sizes that help each group."""
    others = [other for other in sizes if other != size]
    return all([any([other in lot for other in others]) for lot in helping if size in lot])


def needless_sizes(lattice, sizes):
    """Return the sizes that can each be left out alone without a loss."""
    numbers = list(range(len(lattice.groups)))
    found = sizes_by_group(lattice, numbers, max(sizes, default=0))
    helping = [found[number] for number in numbers]
    return tuple([size for size in sorted(set(sizes)) if is_needless(size, sizes, helping)])
