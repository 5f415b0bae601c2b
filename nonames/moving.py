"""Structures after a renaming."""

from nonames.kinds import inner_kinds
from nonames.listing import uncounted_structures


def moved_row(members, renaming):
    """Return the new numbers of the things of a tuple, in their order."""
    return tuple([renaming[thing] for thing in members])


def moved_lot(members, renaming):
    """Return the new numbers of the things of a lot, as a lot."""
    return tuple(sorted(moved_row(members, renaming)))


def moved_round(members, renaming):
    """Return the new numbers of a round, turned so that the least thing comes first."""
    row = moved_row(members, renaming)
    if not row:
        return row
    at = row.index(min(row))
    return row[at:] + row[:at]


def moved_lots(lots, renaming):
    """Return several lots of things after a renaming, as a lot of lots."""
    return tuple(sorted([moved_lot(lot, renaming) for lot in lots]))


def moved_hand(hand, things, renaming):
    """Return the other hand if the renaming puts an odd number of pairs the other way round."""
    row = moved_row(things, renaming)
    turns = len([at for at in range(len(row)) for earlier in range(at) if row[earlier] > row[at]])
    return (hand + turns) % 2


def moved_plain(world, kind, structure, renaming):
    """Return a structure of a plain kind after a renaming, which is given as a tuple."""
    tag = kind[0]
    if tag == "named":
        return structure
    if tag == "one":
        return renaming[structure]
    if tag == "hand":
        return moved_hand(structure, world.things_of(kind[1]), renaming)
    if tag == "row":
        return moved_row(structure, renaming)
    if tag == "lot":
        return moved_lot(structure, renaming)
    if tag == "round":
        return moved_round(structure, renaming)
    # Parts, webs and trees hold lots or pairs, which are lots of two things.
    return moved_lots(structure, renaming)


def left_used(world, kind, structures):
    """List the structures of the left inner kind that are needed to rename these."""
    tag = kind[0]
    if tag == "either":
        return [value[1] for value in structures if value[0] == 0]
    if tag == "both":
        return [value[0] for value in structures]
    if tag == "lots":
        return [member for value in structures for member in value]
    # A map does not write down what its answers answer; that is found by the order alone.
    return uncounted_structures(world, kind[1])


def right_used(kind, structures):
    """List the structures of the right inner kind that are needed to rename these."""
    tag = kind[0]
    if tag == "either":
        return [value[1] for value in structures if value[0] == 1]
    if tag == "both":
        return [value[1] for value in structures]
    return [answer for value in structures for answer in value]


def moved_map(answers, left, right):
    """Return a map after a renaming; `left` has all its sources in ascending order."""
    renamed = {left[source]: right[answer] for source, answer in zip(list(left), answers)}
    return tuple([renamed[source] for source in left])


def moved_built(kind, structure, tables):
    """Return a structure of a built kind after a renaming, from the tables of its inner kinds."""
    tag = kind[0]
    if tag == "either":
        return (structure[0], tables[structure[0]][structure[1]])
    if tag == "both":
        return (tables[0][structure[0]], tables[1][structure[1]])
    if tag == "lots":
        return tuple(sorted([tables[0][member] for member in structure]))
    return moved_map(structure, tables[0], tables[1])


def renaming_table(world, kind, structures, renaming):
    """Return a dict from each of these structures, in their order, to the renamed one."""
    # Many structures hold the same ones, so each is renamed only once.
    wanted = list({value: True for value in structures})
    inner = inner_kinds(kind)
    if not inner:
        return {value: moved_plain(world, kind, value, renaming) for value in wanted}
    tables = [renaming_table(world, inner[0], left_used(world, kind, wanted), renaming)]
    if len(inner) == 2:
        tables.append(renaming_table(world, inner[1], right_used(kind, wanted), renaming))
    return {value: moved_built(kind, value, tables) for value in wanted}


def rename_structure(world, kind, structure, number):
    """Return the structure after the renaming of that number."""
    table = renaming_table(world, kind, [structure], world.renamings[number])
    return table[structure]
