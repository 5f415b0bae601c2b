"""Kinds: their forms, their inner kinds and their levels."""

from nonames.errors import BadKind

# What stands behind the tag of each form.
FORMS = {
    "named": ("digit",),
    "one": ("sort",),
    "lot": ("sort", "digit"),
    "row": ("sort",),
    "round": ("sort",),
    "hand": ("sort",),
    "parts": ("sort", "sizes"),
    "web": ("sort",),
    "tree": ("sort",),
    "either": ("kind", "kind"),
    "both": ("kind", "kind"),
    "lots": ("kind", "digit"),
    "maps": ("kind", "kind"),
    "pairing": ("kind", "kind"),
}

LEVELS = 6


def is_between(value, low, high):
    """Tell whether a value is an integer within these bounds."""
    return isinstance(value, int) and low <= value <= high


def is_sizes(value):
    """Tell whether a value can be the sizes of `parts`."""
    if not isinstance(value, tuple) or not is_between(len(value), 1, 4):
        return False
    if not all([is_between(size, 1, 4) for size in value]):
        return False
    return list(value) == sorted(value)


def is_item(value, word, sorts):
    """Tell whether a value can stand where a form has this word."""
    if word == "digit":
        return is_between(value, 0, 9)
    if word == "sort":
        return is_between(value, 0, sorts - 1)
    if word == "sizes":
        return is_sizes(value)
    # An inner kind is looked at on its own.
    return True


def has_form(part, sorts):
    """Tell whether a value has one of the forms, whatever its inner kinds are."""
    if not isinstance(part, tuple) or len(part) == 0:
        return False
    tag = part[0]
    if not isinstance(tag, str) or tag not in FORMS:
        return False
    words = FORMS[tag]
    if len(part) != len(words) + 1:
        return False
    return all([is_item(value, word, sorts) for value, word in zip(part[1:], words)])


def inner_kinds(kind):
    """Return the inner kinds of a kind, from left to right."""
    words = FORMS[kind[0]]
    return tuple([item for item, word in zip(kind[1:], words) if word == "kind"])


def check_part(part, sorts, level):
    """Raise the error for the first wrong part of a part that stands at a level."""
    if level > LEVELS or not has_form(part, sorts):
        raise BadKind(part)
    for inner in inner_kinds(part):
        check_part(inner, sorts, level + 1)


def check_kind(kind, sorts):
    """Raise BadKind with the first wrong part if this is not a kind for so many sorts."""
    check_part(kind, sorts, 1)


def kind_depth(kind):
    """Return the number of levels of a kind."""
    return 1 + max([kind_depth(inner) for inner in inner_kinds(kind)], default=0)
