"""A second reading of points 21 to 29: texts are checked against all that a form could have next."""

import re

NUMBER = "number"
GRAMMAR = {
    "kind": [],
    "sort": [("a",), ("b",)],
    "sizes": [(NUMBER, "more sizes")],
    "more sizes": [(), ("+", NUMBER, "more sizes")],
    "value": [(NUMBER,), ("(", ")"), ("(", "value", "more values", ")")],
    "more values": [(), (",", "value", "more values")],
}
for _tag, _items in (("named", [NUMBER]), ("one", ["sort"]), ("lot", ["sort", NUMBER]), ("row", ["sort"]),
                     ("round", ["sort"]), ("hand", ["sort"]), ("parts", ["sort", "sizes"]), ("web", ["sort"]),
                     ("tree", ["sort"]), ("either", ["kind", "kind"]), ("both", ["kind", "kind"]),
                     ("lots", ["kind", NUMBER]), ("maps", ["kind", "kind"]), ("pairing", ["kind", "kind"])):
    _row = [_tag, "("]
    for _item in _items:
        _row += [_item, ","]
    GRAMMAR["kind"].append(tuple(_row[:-1] + [")"]))


def slow_tokens(text):
    return [(found.start(), found.group()) for found in re.finditer(r"[a-z]+|[0-9]+|[^ ]", text)]


def expanded(stack):
    """All stacks that are empty or begin with a token and that a stack can become."""
    if not stack or stack[0] not in GRAMMAR:
        return {stack}
    return {found for row in GRAMMAR[stack[0]] for found in expanded(row + stack[1:])}


def fits(token, wanted):
    if wanted == NUMBER:
        return re.fullmatch("0|[1-9][0-9]*", token) is not None
    return token == wanted


def slow_fault(text, form):
    """The place where a text stops having the form, or None if it has it."""
    stacks = {(form,)}
    depth = 0
    for place, token in slow_tokens(text):
        stacks = {stack[1:] for start in stacks for stack in expanded(start) if stack and fits(token, stack[0])}
        if not stacks or (token == "(" and depth == 20):
            return place
        depth += {"(": 1, ")": -1}.get(token, 0)
    return None if any(() in expanded(stack) for stack in stacks) else len(text)


def joined(tokens):
    """A text with these tokens, with a space only where two runs would become one."""
    text = ""
    for token in tokens:
        both = text[-1:] + token[:1]
        if both.isdigit() and len(both) == 2 or re.fullmatch("[a-z][a-z]", both):
            text += " "
        text += token
    return text


def spoilt(text, signs):
    """Texts that differ from this one by a token: left out, doubled, exchanged with the next, or put in."""
    tokens = [token for _, token in slow_tokens(text)]
    found = []
    for at in range(len(tokens) + 1):
        rest = tokens[at + 1:]
        found.append(tokens[:at])
        found.append(tokens[:at] + rest)
        found.append(tokens[:at + 1] + tokens[at:])
        found.append(tokens[:at] + rest[:1] + tokens[at:at + 1] + rest[1:])
        found += [tokens[:at] + [sign] + tokens[at:] for sign in signs]
        found += [tokens[:at] + [sign] + rest for sign in signs]
    return sorted({one for row in found for one in (joined(row), " ".join(row), joined(row) + "  ")})


def cycle_texts(sizes, many):
    """All rows of at most `many` tokens that are renamings, as tuples of tokens."""
    sorts = [sort for sort, size in enumerate(sizes) for _ in range(size)]

    def longer(row, used, cycle):
        """Rows that begin with this one; `cycle` holds the open cycle's things, None outside of cycles."""
        found = [row] if cycle is None and row else []
        if len(row) == many:
            return found
        if cycle is None:
            return found + longer(row + ("(",), used, ())
        found += longer(row + (")",), used, None)
        for thing, sort in enumerate(sorts):
            if thing not in used and all(sorts[other] == sort for other in cycle):
                found += longer(row + (str(thing),), used | {thing}, cycle + (thing,))
        return found

    return longer((), frozenset(), None)


def slow_renaming(sizes, row):
    """The renaming that a row of tokens describes."""
    renaming = list(range(sum(sizes)))
    for cycle in re.findall(r"\(([0-9 ]*)\)", " ".join(row)):
        things = [int(word) for word in cycle.split()]
        for thing, after in zip(things, things[1:] + things[:1]):
            renaming[thing] = after
    return tuple(renaming)
