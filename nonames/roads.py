"""Roads and rings: dividing some maps without going through all renamings."""

from nonames.dividing import check_map, polynomial_kind
from nonames.listing import uncounted_structures


def road(world, coefficients, f, start):
    """Yield the answers of a map from a start on, through the named structures, to the first one without a name."""
    sources = uncounted_structures(world, polynomial_kind(coefficients, 0))
    answer = f[sources.index(start)]
    while answer[0] == 0:
        yield answer
        answer = f[sources.index(answer)]
    yield answer


def subtract(world, coefficients, f):
    """Return the map without the named structures, or raise TooMany or else BadMap."""
    kind = polynomial_kind(coefficients, 0)
    check_map(world, kind, polynomial_kind(coefficients, 1), f)
    starts = [structure for structure in uncounted_structures(world, kind) if structure[0] == 1]
    return tuple([list(road(world, coefficients, f, start))[-1] for start in starts])


def ends_kind(sort):
    """Return the kind of the ends of the things of a sort."""
    return ("both", ("named", 2), ("one", sort))


def walk_from(ahead, back, start, end):
    """Return the word and the things of the walk that leaves a thing of sort 0 by an end.

    `ahead` and `back` lead from the ends of the things of one sort to those of the other one.
    """
    word = ()
    things = ()
    thing = start
    leaving = end
    while thing not in things:
        coming, other = ahead[(leaving, thing)]
        word = word + (leaving, coming)
        things = things + (thing, other)
        end_back, thing = back[(1 - coming, other)]
        leaving = 1 - end_back
    return (word, things)


def ring_from(ahead, back, start):
    """Return the ring of a thing of sort 0 in the direction of its least word, from this thing on."""
    _, members = walk_from(ahead, back, start, 0)
    walks = [walk_from(ahead, back, thing, end) for thing in members[::2] for end in (0, 1)]
    _, things = min(walks)
    at = things.index(start)
    return things[at:] + things[:at]


def rings(world, f):
    """List the rings of a map between the ends of the things of both sorts, or raise BadMap."""
    check_map(world, ends_kind(0), ends_kind(1), f)
    ahead = {end: answer for end, answer in zip(uncounted_structures(world, ends_kind(0)), f)}
    back = {answer: end for end, answer in ahead.items()}
    found = []
    seen = {}
    for thing in world.things_of(0):
        if thing not in seen:
            ring = ring_from(ahead, back, thing)
            found.append(ring)
            for member in ring:
                seen[member] = True
    return found


def halve(world, f):
    """Return the next thing on its ring for each thing of sort 0, or raise BadMap."""
    following = {ring[at]: ring[at + 1] for ring in rings(world, f) for at in range(0, len(ring), 2)}
    return tuple([following[thing] for thing in world.things_of(0)])
