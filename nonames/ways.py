"""Rules that are one to one or onto."""

from nonames.errors import NoRule, NoWay
from nonames.moves import fitting_things
from nonames.rulecounts import allowed_answers, refusal
from nonames.rules import Rule


def orbit_counts(lattice, space):
    """Return the number of orbits of a space for each class of groups."""
    places = [lattice.class_of(lattice.number(space.stabilizer(orbit[0]))) for orbit in space.orbits()]
    return tuple([places.count(place) for place in range(len(lattice.classes))])


def find_into(lattice, source, goal):
    """Return a rule that is one to one, or raise NoWay with the first class that has too many orbits."""
    counts = orbit_counts(lattice, source)
    for place, most in enumerate(orbit_counts(lattice, goal)):
        if counts[place] > most:
            raise NoWay(("crowded", place, counts[place], most))
    return Rule(source, goal, fitting_things(source, goal))


def makers_of(orbits, allowed):
    """Return, for each orbit of the goal, the places of the orbits of the source that have an allowed answer in it."""
    return [[place for place, answers in enumerate(allowed) if any([answer in orbit for answer in answers])]
            for orbit in orbits]


def search_maker(makers, held, wanted):
    """Look for a free maker that makes room for a wanted orbit if others are handed on.

    `held` leads from orbits of the goal to their makers. Return a dict from each maker that was found to the orbit
    for which it was found, and the free maker, or None if there is none.
    """
    holders = {maker: orbit for orbit, maker in held.items()}
    found = {}
    orbits = [wanted]
    at = 0
    while at < len(orbits):
        for maker in makers[orbits[at]]:
            if maker not in found:
                found[maker] = orbits[at]
                if maker not in holders:
                    return (found, maker)
                orbits.append(holders[maker])
        at += 1
    return (found, None)


def handed_on(held, found, free, wanted):
    """Return `held` with a maker for the wanted orbit as well, after a search that found a free maker."""
    after = {orbit: held[orbit] for orbit in held}
    maker = free
    while found[maker] != wanted:
        orbit = found[maker]
        after[orbit] = maker
        maker = held[orbit]
    after[wanted] = maker
    return after


def makers_for_all(makers):
    """Return a dict that gives each orbit of the goal a maker of its own, or raise NoWay with too few makers."""
    held = {}
    for wanted in range(len(makers)):
        found, free = search_maker(makers, held, wanted)
        if free is None:
            orbits = [wanted] + [orbit for orbit, maker in held.items() if maker in found]
            raise NoWay(("few", tuple(sorted(orbits)), tuple(sorted(list(found)))))
        held = handed_on(held, found, free, wanted)
    return held


def find_onto(lattice, source, goal):
    """Return a rule that is onto, or raise NoRule or else NoWay."""
    paper = refusal(source, goal)
    if paper is not None:
        raise NoRule(paper)
    orbits = goal.orbits()
    allowed = allowed_answers(source, goal)
    choices = [answers[0] for answers in allowed]
    for orbit, maker in makers_for_all(makers_of(orbits, allowed)).items():
        choices[maker] = [answer for answer in allowed[maker] if answer in orbits[orbit]][0]
    return Rule(source, goal, choices)


def find_both_ways(lattice, source, goal):
    """Return a rule that is one to one and onto and the one that leads back, or raise NoWay."""
    for number, group in enumerate(lattice.groups):
        many, others = len(source.fixed(group)), len(goal.fixed(group))
        if many != others:
            raise NoWay(("parted", number, many, others))
    rule = Rule(source, goal, fitting_things(source, goal))
    back = {answer: number for number, answer in enumerate(rule.table)}
    return (rule, Rule.from_table(goal, source, [back[answer] for answer in range(goal.size)]))
