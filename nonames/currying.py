"""Rules from pairs, and the rules to maps that say the same."""

from nonames.errors import BadRule
from nonames.listing import list_structures
from nonames.rules import Rule
from nonames.spaces import Space


def curry(rule):
    """Return the rule to `maps` that a rule from `both` makes, or raise BadRule or else an error of Space."""
    kind = rule.source.kind
    if kind[0] != "both":
        raise BadRule(rule.choices)
    world = rule.source.world
    goal = Space(world, ("maps", kind[2], rule.goal.kind))
    source = Space(world, kind[1])
    seconds = list_structures(world, kind[2])
    maps = [tuple([rule((first, second)) for second in seconds]) for first in source]
    return Rule.from_table(source, goal, [goal.number(answers) for answers in maps])


def uncurry(rule):
    """Return the rule from `both` of which `curry` makes this one, or raise BadRule or else an error of Space."""
    kind = rule.goal.kind
    if kind[0] != "maps":
        raise BadRule(rule.choices)
    world = rule.source.world
    source = Space(world, ("both", rule.source.kind, kind[1]))
    goal = Space(world, kind[2])
    seconds = list_structures(world, kind[1])
    answers = [rule(first)[seconds.index(second)] for first, second in source]
    return Rule.from_table(source, goal, [goal.number(answer) for answer in answers])
