"""A second reading of points 31 to 39: products and sums by counting, and addresses by their ranks."""

from collections import Counter
from itertools import combinations, permutations, product
from slow import slow_list

LOTS = ("either", "both", "lots", "maps", "pairing")


def terms_of(counts):
    """The terms of a form from a dict from atoms to counts."""
    return tuple((counts[atoms], atoms) for atoms in sorted(counts) if counts[atoms])


def slow_sum(terms, others):
    counts = Counter()
    for count, atoms in terms + others:
        counts[atoms] += count
    return terms_of(counts)


def slow_product(terms, others):
    counts = Counter()
    for (count, atoms), (many, more) in product(terms, others):
        counts[tuple(sorted(atoms + more))] += count * many
    return terms_of(counts)


def slow_factors(sources, answers):
    """For each factor of `maps` its term, its copy and its own terms."""
    return [(place, copy, ((1, (("maps", ((1, atoms),), answers),)),) if atoms else answers)
            for place, (count, atoms) in enumerate(sources) for copy in range(count)]


def slow_terms(kind):
    """The terms of the form of a kind (point 33)."""
    tag = kind[0]
    if tag == "named":
        return ((kind[1], ()),) if kind[1] else ()
    if tag == "either":
        return slow_sum(slow_terms(kind[1]), slow_terms(kind[2]))
    if tag == "both":
        return slow_product(slow_terms(kind[1]), slow_terms(kind[2]))
    if tag == "lots":
        if kind[2] < 2:
            return slow_terms(kind[1]) if kind[2] else ((1, ()),)
        return ((1, (("lots", slow_terms(kind[1]), kind[2]),)),)
    if tag == "pairing":
        return ((1, (("pairing", slow_terms(kind[1]), slow_terms(kind[2])),)),)
    if tag == "maps":
        found = ((1, ()),)
        for _, _, factor in slow_factors(slow_terms(kind[1]), slow_terms(kind[2])):
            found = slow_product(found, factor)
        return found
    return ((1, (kind,)),)


def slow_values(sizes, atom):
    """All values of an atom in addresses (point 35)."""
    tag = atom[0]
    if tag == "lots":
        return list(combinations(slow_addresses(sizes, atom[1]), atom[2]))
    if tag not in ("maps", "pairing"):
        return slow_list(sizes, atom)
    sources, goals = slow_addresses(sizes, atom[1]), slow_addresses(sizes, atom[2])
    if tag == "maps":
        return list(product(goals, repeat=len(sources)))
    return list(permutations(goals)) if len(goals) == len(sources) else []


def slow_addresses(sizes, terms):
    """All addresses of a form, ascending."""
    return sorted((place, copy, parts) for place, (count, atoms) in enumerate(terms) for copy in range(count)
                  for parts in product(*[slow_values(sizes, atom) for atom in atoms]))


def slow_sum_address(terms, others, side, address):
    """The address in the sum: copies of equal atoms are numbered, the left form's first."""
    atoms = (terms, others)[side][address[0]][1]
    copies = [(at, copy) for at, form in enumerate((terms, others)) for count, more in form if more == atoms
              for copy in range(count)]
    whole = [more for _, more in slow_sum(terms, others)]
    return (whole.index(atoms), copies.index((side, address[1])), address[2])


def slow_product_address(terms, others, address, other):
    """The address in the product: copies of equal atoms are numbered by their terms, then by their copies."""
    place, copy, parts = address
    at, many, more = other
    atoms = tuple(sorted(terms[place][1] + others[at][1]))
    copies = [(t, u, c, d) for t, (count, left) in enumerate(terms) for u, (number, right) in enumerate(others)
              if tuple(sorted(left + right)) == atoms for c in range(count) for d in range(number)]
    rows = [(atom, 0, k, part) for k, (atom, part) in enumerate(zip(terms[place][1], parts))]
    rows += [(atom, 1, k, part) for k, (atom, part) in enumerate(zip(others[at][1], more))]
    whole = [found for _, found in slow_product(terms, others)]
    return (whole.index(atoms), copies.index((place, at, copy, many)),
            tuple(part for _, _, _, part in sorted(rows, key=lambda row: row[:3])))


def slow_map_address(sizes, kind, value):
    sources, goals = slow_terms(kind[1]), slow_terms(kind[2])
    answers = sorted((slow_address(sizes, kind[1], source), slow_address(sizes, kind[2], answer))
                     for source, answer in zip(slow_list(sizes, kind[1]), value))
    whole, found = ((1, ()),), (0, 0, ())
    for place, copy, factor in slow_factors(sources, goals):
        own = tuple(answer for source, answer in answers if source[:2] == (place, copy))
        address = (0, 0, (own,)) if sources[place][1] else own[0]
        found = slow_product_address(whole, factor, found, address)
        whole = slow_product(whole, factor)
    return found


def slow_address(sizes, kind, value):
    """The address of a structure (point 38)."""
    tag = kind[0]
    if tag == "named":
        return (0, value, ())
    if tag == "either":
        inner = slow_address(sizes, kind[1 + value[0]], value[1])
        return slow_sum_address(slow_terms(kind[1]), slow_terms(kind[2]), value[0], inner)
    if tag == "both":
        inner = [slow_address(sizes, part, item) for part, item in zip(kind[1:], value)]
        return slow_product_address(slow_terms(kind[1]), slow_terms(kind[2]), inner[0], inner[1])
    if tag == "lots":
        addresses = sorted(slow_address(sizes, kind[1], member) for member in value)
        if kind[2] < 2:
            return addresses[0] if kind[2] else (0, 0, ())
        return (0, 0, (tuple(addresses),))
    if tag == "pairing":
        pairs = sorted((slow_address(sizes, kind[1], source), slow_address(sizes, kind[2], answer))
                       for source, answer in zip(slow_list(sizes, kind[1]), value))
        return (0, 0, (tuple(answer for _, answer in pairs),))
    if tag == "maps":
        return slow_map_address(sizes, kind, value)
    return (0, 0, (value,))


def form_kinds():
    """Kinds whose forms have several terms, counts above 1 or equal atoms, for worlds of at least one sort."""
    one, hand, two = ("one", 0), ("hand", 0), ("lot", 0, 2)
    name = [("named", count) for count in range(6)]
    some, more = ("either", name[2], one), ("either", one, name[1])
    return [
        some, more, ("either", some, more), ("either", one, one), ("either", ("either", one, hand), one),
        ("both", some, more), ("both", one, one), ("both", ("both", one, hand), ("both", hand, one)),
        ("both", ("either", one, ("either", hand, name[2])), ("either", name[1], ("either", one, hand))),
        ("both", ("either", one, one), ("either", one, ("both", one, name[2]))), ("both", one, name[0]),
        ("both", ("both", some, some), some), ("both", ("either", two, one), ("either", one, two)),
        ("lots", some, 0), ("lots", some, 1), ("lots", some, 2), ("lots", ("lots", more, 2), 3), ("lots", ("both", one, one), 2),
        ("lots", name[0], 0), ("lots", name[0], 2), ("lots", ("either", hand, some), 3),
        ("maps", some, more), ("maps", more, some), ("maps", name[2], more), ("maps", name[3], name[3]),
        ("maps", name[3], ("either", one, one)), ("maps", name[2], ("either", one, hand)), ("maps", one, some),
        ("maps", name[0], one), ("maps", one, name[0]), ("maps", name[1], name[0]), ("maps", some, name[0]),
        ("maps", ("both", name[2], one), some), ("maps", ("either", name[1], ("either", one, hand)), name[2]),
        ("maps", ("both", one, one), name[2]), ("maps", ("lots", some, 2), name[2]), ("maps", ("maps", name[2], one), name[2]),
        ("maps", ("either", hand, name[1]), ("either", ("both", hand, one), hand)),
        ("pairing", some, ("either", one, name[2])), ("pairing", more, more), ("pairing", some, more),
        ("pairing", ("both", hand, name[2]), ("maps", name[2], name[2])), ("pairing", name[0], name[0]),
        ("both", ("maps", name[2], one), ("maps", one, name[2])), ("either", ("lots", some, 2), ("lots", some, 2)),
        ("both", ("lots", more, 2), ("lots", more, 2)), ("both", ("pairing", hand, name[2]), ("pairing", hand, name[2])),
    ]
