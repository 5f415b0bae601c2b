"""How many rules there are, which, and why there are none."""

from nonames.errors import NoRule
from nonames.rules import Rule


def allowed_answers(source, goal):
    """Return the numbers of the allowed answers for the first structure of each orbit of the source."""
    return [tuple(goal.fixed(source.stabilizer(orbit[0]))) for orbit in source.orbits()]


def count_rules(source, goal):
    """Return the number of rules."""
    number = 1
    for answers in allowed_answers(source, goal):
        number = number * len(answers)
    return number


def rule_at(source, goal, position):
    """Return the rule at a position, or raise NoRule."""
    if position >= count_rules(source, goal):
        raise NoRule(position)
    choices = []
    left = position
    # The last choice changes first from one position to the next.
    for answers in reversed(list(allowed_answers(source, goal))):
        choices.append(answers[left % len(answers)])
        left = left // len(answers)
    return Rule(source, goal, choices[::-1])


def position_of(rule):
    """Return the position of a rule."""
    position = 0
    for answers, choice in zip(allowed_answers(rule.source, rule.goal), rule.choices):
        position = position * len(answers) + answers.index(choice)
    return position


def first_movers(source, goal, number):
    """Return, for each structure of the goal, the least renaming that leaves only the one of the source alone."""
    rest = source.stabilizer(number)
    return tuple([min([renaming for renaming in rest if goal.moved(answer, renaming) != answer])
                  for answer in range(goal.size)])


def refusal(source, goal):
    """Return the first refusal paper, or None if there is a rule."""
    for orbit, answers in zip(source.orbits(), allowed_answers(source, goal)):
        if not answers:
            return (orbit[0], first_movers(source, goal, orbit[0]))
    return None


def judge_refusal(source, goal, paper):
    """Tell whether a paper is a refusal paper."""
    number, renamings = paper
    if not 0 <= number < source.size or len(renamings) != goal.size:
        return False
    rest = source.stabilizer(number)
    return all([renaming in rest and goal.moved(answer, renaming) != answer
                for answer, renaming in enumerate(renamings)])


def find_rule(source, goal):
    """Return the rule at position 0, or raise NoRule with the first refusal paper."""
    paper = refusal(source, goal)
    if paper is not None:
        raise NoRule(paper)
    return rule_at(source, goal, 0)
