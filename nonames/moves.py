"""Things that are moved by rows: their orbits, and maps that keep the moves.

Spaces and actions are looked at alike here: both have `size`, `moves`, `orbits` and `stabilizer`.
"""


def orbits_of(size, rows):
    """Return the lots of numbers that a group of rows makes of one another, ordered by their first numbers."""
    found = []
    seen = {}
    for number in range(size):
        if number not in seen:
            orbit = tuple(sorted({row[number] for row in rows}))
            found.append(orbit)
            for member in orbit:
                seen[member] = True
    return found


def fitting_things(first, second):
    """Return, for the first thing of each orbit, the least fitting thing of the second, or None if one has none.

    It has exactly the same stabilizer and lies in an orbit to which no earlier orbit went.
    """
    orbits = second.orbits()
    rests = [[second.stabilizer(number) for number in lot] for lot in orbits]
    free = list(range(len(orbits)))
    found = []
    for orbit in first.orbits():
        rest = first.stabilizer(orbit[0])
        fitting = [(orbits[place][rests[place].index(rest)], place) for place in free if rest in rests[place]]
        if not fitting:
            return None
        thing, taken = min(fitting)
        found.append(thing)
        free = [place for place in free if place != taken]
    return found


def spread(first, second, goals):
    """Return the map that keeps the moves and takes the first thing of each orbit to its goal in the second."""
    found = {}
    for orbit, goal in zip(first.orbits(), goals):
        for row, other in zip(first.moves, second.moves):
            found[row[orbit[0]]] = other[goal]
    return tuple([found[thing] for thing in range(first.size)])
