"""Reports on the questions of a desk."""

from nonames.cycles import format_group
from nonames.rulecounts import count_rules
from nonames.texts import sum_text


def row_of(texts):
    """Return the row of a report for two names and further texts, which are filled up already."""
    return " ".join([text.ljust(12) for text in texts[:2]] + texts[2:])


def detail_of(desk, name, other, verdict):
    """Return what a report says of a verdict."""
    if verdict[0] == "rule":
        return str(count_rules(desk.space_of(name), desk.space_of(other)))
    if verdict[0] == "plans":
        return str(sum([len(plan) for plan in verdict[1]]))
    return format_group(desk.world, desk.lattice.groups[verdict[2]])


def report(desk):
    """Return the report on the verdicts of all questions."""
    rows = [row_of(["from", "to", "way".ljust(5), "detail"])]
    made = 0
    for name, other in desk.questions:
        verdict = desk.verdict_of(name, other)
        rows.append(row_of([name, other, verdict[0].ljust(5), detail_of(desk, name, other, verdict)]))
        if verdict[0] != "block":
            made = made + 1
    rows.append(str(made).rjust(3) + " of " + str(len(desk.questions)))
    return "\n".join(rows)


def lots_text(lots):
    """Return the text of lots of sizes."""
    if not lots:
        return "none"
    return ", ".join([sum_text(lot) if lot else "nothing" for lot in lots])


def size_report(desk):
    """Return the report on the sizes that are enough for all questions."""
    rows = [row_of(["from", "to", "sizes"])]
    for name, other in desk.questions:
        lots = desk.least_for(name, other)
        rows.append(row_of([name, other, str(len(lots)).rjust(5), lots_text(lots)]))
    return "\n".join(rows)
