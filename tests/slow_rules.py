"""A second reading of points 43 to 59, by trying all maps."""

from itertools import permutations, product
from slow import slow_list, slow_rename
from nonames.worlds import World


def slow_moves(sizes, kind):
    """For each renaming, the number of each structure after it."""
    structures = slow_list(sizes, kind)
    return [[structures.index(slow_rename(sizes, kind, value, row)) for value in structures]
            for row in World(sizes).renamings]


def orbits_in(moves):
    """The orbits as sets, found by putting together whatever a row moves to one another."""
    lots = [{x} for x in range(len(moves[0]))]
    for row in moves:
        for x, y in enumerate(row):
            first = next(lot for lot in lots if x in lot)
            second = next(lot for lot in lots if y in lot)
            if first is not second:
                lots.remove(second)
                first |= second
    return [tuple(sorted(lot)) for lot in sorted(lots, key=min)]


def keeping_maps(first, second, rows):
    """All tuples among `rows` that keep the moves of two lists of rows."""
    return [row for row in rows
            if all(row[moved[x]] == other[row[x]] for moved, other in zip(first, second) for x in range(len(row)))]


def slow_tables(first, second):
    """The tables of all rules, from the moves of the source and the goal."""
    return keeping_maps(first, second, product(range(len(second[0])), repeat=len(first[0])))


def slow_bijections(first, second):
    """All one-to-one maps onto the things of the second that keep the moves."""
    if len(first[0]) != len(second[0]):
        return []
    return keeping_maps(first, second, permutations(range(len(second[0]))))


def rests_of(moves, x):
    """The places of the rows that leave x where it is."""
    return [at for at, row in enumerate(moves) if row[x] == x]


def slow_fitting(first, second):
    """The goals of the first things of the orbits, as points 47 and 57 find them; None where none is left."""
    taken = []
    goals = []
    orbits = orbits_in(second)
    for orbit in orbits_in(first):
        fitting = [y for y in range(len(second[0])) if rests_of(second, y) == rests_of(first, orbit[0])
                   and not any(y in lot for lot in taken)]
        if not fitting:
            return None
        goals.append(fitting[0])
        taken += [lot for lot in orbits if fitting[0] in lot]
    return goals
