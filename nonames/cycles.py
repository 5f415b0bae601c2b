"""Texts of renamings, by their cycles, and of groups."""

from nonames.groups import generated
from nonames.texts import Reader


def cycle_from(renaming, start):
    """Return the cycle of a renaming, given as a tuple, that begins with a thing."""
    cycle = (start,)
    while renaming[cycle[-1]] != start:
        cycle = cycle + (renaming[cycle[-1]],)
    return cycle


def cycles_of(world, number):
    """Yield the cycles of at least two things, each from its least thing on, in ascending order."""
    for thing in range(world.things):
        cycle = cycle_from(world.renamings[number], thing)
        # A cycle comes up once for each of its things; it counts where it begins with the least one.
        if len(cycle) > 1 and min(cycle) == thing:
            yield cycle


def format_renaming(world, number):
    """Return the text of the renaming of that number."""
    texts = ["(" + " ".join([str(thing) for thing in cycle]) + ")" for cycle in cycles_of(world, number)]
    return "".join(texts) if texts else "()"


def read_cycle(reader, world, free):
    """Read a cycle of things that are still free, as a tuple."""
    reader.take_opening()
    cycle = ()
    left = list(free)
    while reader.token() != ")":
        thing = int(reader.take([str(other) for other in left]))
        cycle = cycle + (thing,)
        left = [other for other in left if other != thing and world.sort_of(other) == world.sort_of(thing)]
    reader.take_closing()
    return cycle


def read_renaming(reader, world):
    """Read one or more cycles and return the number of the renaming."""
    row = list(range(world.things))
    free = list(range(world.things))
    more = True
    while more:
        cycle = read_cycle(reader, world, free)
        for at, thing in enumerate(cycle):
            row[cycle[at - 1]] = thing
        free = [thing for thing in free if thing not in cycle]
        more = reader.token() == "("
    return world.number(row)


def parse_renaming(world, text):
    """Return the number of the renaming with this text, or raise BadText."""
    reader = Reader(text)
    number = read_renaming(reader, world)
    reader.finish()
    return number


def group_basis(world, group):
    """Return the members of a group that are not in the least group that holds the taken ones before."""
    taken = []
    held = (0,)
    for member in group:
        if member not in held:
            taken.append(member)
            held = generated(world, taken)
    return tuple(taken)


def format_group(world, group):
    """Return the text of a group, the texts of its basis."""
    texts = [format_renaming(world, number) for number in group_basis(world, group)]
    return "; ".join(texts) if texts else "()"


def parse_group(world, text):
    """Return the least group that holds the renamings of a text, or raise BadText."""
    reader = Reader(text)
    numbers = [read_renaming(reader, world)]
    while reader.token() == ";":
        reader.take((";",))
        numbers.append(read_renaming(reader, world))
    reader.finish()
    return generated(world, numbers)
