"""A second reading of points 9, 10, 13 and 26, and values that are nearly structures."""

from functools import lru_cache
import slow


@lru_cache(maxsize=None)
def slow_list(sizes, kind):
    return slow.slow_list(sizes, kind)


def slow_is(sizes, kind, value):
    """Whether a value is a structure, without a list of the kind itself."""
    tag = kind[0]
    if tag not in ("either", "both", "lots", "maps", "pairing"):
        return value in slow_list(sizes, kind)
    if not isinstance(value, tuple):
        return False
    if tag == "either":
        return len(value) == 2 and value[0] in (0, 1) and slow_is(sizes, kind[1 + value[0]], value[1])
    if tag == "both":
        return len(value) == 2 and slow_is(sizes, kind[1], value[0]) and slow_is(sizes, kind[2], value[1])
    if tag == "lots":
        known = slow_list(sizes, kind[1])
        return len(value) == kind[2] and all(item in known for item in value) and list(value) == sorted(set(value))
    sources, goals = slow_list(sizes, kind[1]), slow_list(sizes, kind[2])
    if len(value) != len(sources) or any(item not in goals for item in value):
        return False
    return tag == "maps" or sorted(value) == goals


def near(value):
    """Values that differ from this one in one way, at any depth."""
    found = [-1, 0, 7, 10 ** 30, -(10 ** 30), (), (value,), (value, value)]
    if isinstance(value, int):
        return found + [value + 1, value - 1, -value]
    found += [value + (0,), value + ((),), value + value[:1], value + value[-1:], value[:-1], value[1:]]
    for at, item in enumerate(value):
        found += [value[:at] + (other,) + value[at + 1:] for other in near(item)]
        found.append(value[:at] + (item, item) + value[at + 1:])
        found.append(value[:at] + value[at + 1:])
        for more in range(at):
            row = list(value)
            row[at], row[more] = row[more], row[at]
            found.append(tuple(row))
            found.append(value[:more] + (item,) + value[more + 1:])
    return found


def slow_listed_path(value, listed):
    if isinstance(value, int):
        return ()
    rows = [row for row in listed if isinstance(row, tuple) and len(row) == len(value)]
    if not rows:
        return ()
    agreeing = [sum(1 for row in rows if row[:at + 1] == value[:at + 1]) for at in range(len(value))]
    at = agreeing.index(0)
    return (at,) + slow_listed_path(value[at], [row[at] for row in rows if row[:at] == value[:at]])


def slow_path(sizes, kind, value):
    """The path to the first fault, or None, word by word as in point 26."""
    tag = kind[0]
    if slow_is(sizes, kind, value):
        return None
    if tag not in ("either", "both", "lots", "maps", "pairing"):
        return slow_listed_path(value, slow_list(sizes, kind))
    if not isinstance(value, tuple):
        return ()
    if tag == "either":
        if len(value) != 2:
            return ()
        return (0,) if value[0] not in (0, 1) else (1,) + slow_path(sizes, kind[1 + value[0]], value[1])
    if tag == "both":
        parts = [kind[1], kind[2]]
    elif tag == "lots":
        parts = [kind[1]] * kind[2]
    else:
        parts = [kind[2]] * len(slow_list(sizes, kind[1]))
    if len(value) != len(parts):
        return ()
    if tag == "pairing" and len(slow_list(sizes, kind[2])) != len(parts):
        return ()
    for at, item in enumerate(value):
        path = slow_path(sizes, parts[at], item)
        if path is not None:
            return (at,) + path
        if (tag == "lots" and at and not item > value[at - 1]) or (tag == "pairing" and value.index(item) < at):
            return (at,)
    raise AssertionError((kind, value))
