"""A second, slower reading of DOC.md, with which the tests compare the program."""

from itertools import chain, combinations, permutations, product


def things_of(sizes, sort):
    start = sum(sizes[:sort])
    return tuple(range(start, start + sizes[sort]))


def subsets(items):
    return [lot for many in range(len(items) + 1) for lot in combinations(items, many)]


def partitions(things):
    """All tuples of lots that hold each thing once, from every way to give the things labels."""
    found = set()
    for labels in product(range(max(len(things), 1)), repeat=len(things)):
        lots = {}
        for thing, label in zip(things, labels):
            lots.setdefault(label, []).append(thing)
        found.add(tuple(sorted(tuple(lot) for lot in lots.values())))
    return sorted(found)


def connected(things, pairs):
    group = {thing: thing for thing in things}
    for low, high in pairs:
        old, new = group[low], group[high]
        group = {thing: new if name == old else name for thing, name in group.items()}
    return len(set(group.values())) == 1


def slow_plain(sizes, kind):
    tag = kind[0]
    if tag == "named":
        return list(range(kind[1]))
    things = things_of(sizes, kind[1])
    webs = subsets(list(combinations(things, 2)))
    if tag == "one":
        return list(things)
    if tag == "lot":
        return [lot for lot in subsets(things) if len(lot) == kind[2]]
    if tag == "row":
        return list(permutations(things))
    if tag == "round":
        return [row for row in permutations(things) if not row or row[0] == min(row)]
    if tag == "hand":
        return [0, 1] if len(things) > 1 else [0]
    if tag == "parts":
        return [lots for lots in partitions(things) if tuple(sorted(len(lot) for lot in lots)) == kind[2]]
    if tag == "web":
        return webs
    return [web for web in webs if len(web) == len(things) - 1 and connected(things, web)]


def slow_list(sizes, kind):
    """All structures in ascending order."""
    tag = kind[0]
    if tag == "either":
        found = [(0, left) for left in slow_list(sizes, kind[1])] + [(1, right) for right in slow_list(sizes, kind[2])]
    elif tag == "both":
        found = list(product(slow_list(sizes, kind[1]), slow_list(sizes, kind[2])))
    elif tag == "lots":
        found = list(combinations(slow_list(sizes, kind[1]), kind[2]))
    elif tag in ("maps", "pairing"):
        goals = slow_list(sizes, kind[2])
        found = list(product(goals, repeat=len(slow_list(sizes, kind[1]))))
        if tag == "pairing":
            found = [answers for answers in found if all(answers.count(goal) == 1 for goal in goals)]
    else:
        found = slow_plain(sizes, kind)
    return sorted(found)


def slow_rename_plain(sizes, kind, value, row):
    tag = kind[0]
    if tag == "named":
        return value
    if tag == "one":
        return row[value]
    if tag == "row":
        return tuple(row[thing] for thing in value)
    if tag == "lot":
        return tuple(sorted(row[thing] for thing in value))
    if tag == "round":
        moved = [row[thing] for thing in value]
        while moved and moved[0] != min(moved):
            moved = moved[1:] + moved[:1]
        return tuple(moved)
    if tag == "hand":
        pairs = combinations([row[thing] for thing in things_of(sizes, kind[1])], 2)
        odd = sum(1 for first, second in pairs if first > second) % 2
        return 1 - value if odd else value
    return tuple(sorted(tuple(sorted(row[thing] for thing in lot)) for lot in value))


def slow_rename(sizes, kind, value, row):
    """The structure after the renaming `row`."""
    tag = kind[0]
    if tag == "either":
        return (value[0], slow_rename(sizes, kind[1 + value[0]], value[1], row))
    if tag == "both":
        return (slow_rename(sizes, kind[1], value[0], row), slow_rename(sizes, kind[2], value[1], row))
    if tag == "lots":
        return tuple(sorted(slow_rename(sizes, kind[1], member, row) for member in value))
    if tag in ("maps", "pairing"):
        sources = slow_list(sizes, kind[1])
        answers = {slow_rename(sizes, kind[1], source, row): slow_rename(sizes, kind[2], answer, row)
                   for source, answer in zip(sources, value)}
        return tuple(answers[source] for source in sources)
    return slow_rename_plain(sizes, kind, value, row)


def slow_closed(world, members):
    """The least set of renamings that holds these and 0 and is closed under "then"."""
    found = set(members) | {0}
    while True:
        more = found | {world.then(first, second) for first in found for second in found}
        if more == found:
            return tuple(sorted(found))
        found = more


def slow_groups(world):
    """All groups, each found as the join of the groups of single renamings."""
    groups = {(0,)}
    waiting = [(0,)]
    while waiting:
        group = waiting.pop()
        for number in range(world.order):
            grown = slow_closed(world, group + (number,))
            if grown not in groups:
                groups.add(grown)
                waiting.append(grown)
    return sorted(groups, key=lambda group: (len(group), group))


def plain_kinds(sorts):
    """Plain kinds of every tag for every sort."""
    found = [("named", count) for count in (0, 1, 2, 9)]
    for sort in range(sorts):
        found += [(tag, sort) for tag in ("one", "row", "round", "hand", "web", "tree")]
        found += [("lot", sort, many) for many in (0, 1, 2, 3, 4, 9)]
        found += [("parts", sort, size) for size in
                  ((1,), (2,), (3,), (4,), (1, 1), (1, 2), (1, 3), (2, 2), (1, 1, 1), (1, 1, 2), (1, 1, 1, 1))]
    return found


def built_kinds(sorts):
    """Built kinds of every tag with few enough structures for the slow reading."""
    last = sorts - 1
    one, hand, two = ("one", 0), ("hand", last), ("lot", last, 2)
    return list(chain(
        [("either", one, two), ("either", ("round", 0), ("web", last)), ("either", ("named", 0), hand)],
        [("both", one, two), ("both", hand, ("row", 0)), ("both", ("named", 0), one), ("both", one, ("named", 2))],
        [("lots", one, many) for many in (0, 1, 2, 3, 5)],
        [("lots", ("both", one, hand), 2), ("lots", ("lots", one, 2), 2), ("lots", ("named", 3), 2)],
        [("maps", one, hand), ("maps", hand, one), ("maps", one, one), ("maps", ("named", 0), one)],
        [("maps", one, ("named", 0)), ("maps", ("named", 2), two), ("maps", two, ("named", 2)), ("maps", hand, two)],
        [("pairing", one, one), ("pairing", one, two), ("pairing", two, one), ("pairing", ("named", 0), ("named", 0))],
        [("pairing", hand, ("named", 2)), ("pairing", ("named", 2), one), ("pairing", ("named", 3), ("round", 0))],
        [("either", ("both", one, hand), ("lots", two, 2)), ("lots", ("maps", hand, one), 1)],
        [("maps", ("lots", one, 2), hand), ("both", ("maps", hand, hand), ("pairing", hand, hand))],
    ))
