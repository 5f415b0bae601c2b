"""The lines of a desk: their forms, and what each of them makes of a page."""

from nonames.books import is_name
from nonames.errors import BadEntry, UnknownName
from nonames.helpers import check_helper
from nonames.spaces import Space
from nonames.texts import format_kind, parse_kind


class Page:
    """What a desk keeps: a dict of spaces by their names, helpers, and pairs of names.

    A page is never changed; each line makes a new one, so that the old one can be put back.
    """

    def __init__(self, spaces, helpers, pairs):
        self.spaces = spaces
        self.helpers = helpers
        self.pairs = pairs


def is_index(word):
    """Tell whether a word is 0 or a number of one or two digits without a leading zero."""
    if not 1 <= len(word) <= 2 or not all(["0" <= sign <= "9" for sign in word]):
        return False
    return word == "0" or word[0] != "0"


def kind_line(name, kind):
    """Return the line that enters a kind."""
    return "kind " + name + " = " + format_kind(kind)


def help_line(helper):
    """Return the line that adds a helper."""
    line = "help " + helper[0] + " " + str(helper[1])
    return line if helper[0] == "pick" else line + " " + format_kind(helper[2])


def ask_line(pair):
    """Return the line that adds a question."""
    return "ask " + pair[0] + " " + pair[1]


def enter_kind(world, page, line, rest):
    """Return the written line and the page with the kind entered."""
    name, sign, text = rest.partition(" = ")
    if sign == "" or not is_name(name):
        raise BadEntry(line)
    kind = parse_kind(text, len(world.sizes))
    spaces = dict(page.spaces)
    spaces[name] = Space(world, kind)
    return (kind_line(name, kind), Page(spaces, page.helpers, page.pairs))


def drop_kind(world, page, line, rest):
    """Return the line and the page without the kind."""
    if not is_name(rest):
        raise BadEntry(line)
    if rest not in page.spaces:
        raise UnknownName(rest)
    if any([rest in pair for pair in page.pairs]):
        raise BadEntry(line)
    spaces = {name: space for name, space in page.spaces.items() if name != rest}
    return (line, Page(spaces, page.helpers, page.pairs))


def read_helper(line, rest):
    """Return what should be a helper, or raise BadEntry or else what `parse_kind` raises."""
    word, _, more = rest.partition(" ")
    if word == "pick" and is_index(more):
        return ("pick", int(more))
    many, sign, text = more.partition(" ")
    if word != "make" or sign == "" or not is_index(many):
        raise BadEntry(line)
    return ("make", int(many), parse_kind(text, 1))


def add_helper(world, page, line, rest):
    """Return the written line and the page with the helper at the end."""
    helper = read_helper(line, rest)
    check_helper(helper)
    return (help_line(helper), Page(page.spaces, page.helpers + (helper,), page.pairs))


def stop_helper(world, page, line, rest):
    """Return the line and the page without the helper."""
    if not is_index(rest) or int(rest) >= len(page.helpers):
        raise BadEntry(line)
    at = int(rest)
    return (line, Page(page.spaces, page.helpers[:at] + page.helpers[at + 1:], page.pairs))


def read_pair(line, rest):
    """Return the two names of a line, or raise BadEntry."""
    name, _, other = rest.partition(" ")
    if not is_name(name) or not is_name(other):
        raise BadEntry(line)
    return (name, other)


def add_pair(world, page, line, rest):
    """Return the line and the page with the question at the end."""
    pair = read_pair(line, rest)
    for name in pair:
        if name not in page.spaces:
            raise UnknownName(name)
    if pair in page.pairs:
        raise BadEntry(line)
    return (line, Page(page.spaces, page.helpers, page.pairs + (pair,)))


def leave_pair(world, page, line, rest):
    """Return the line and the page without the question."""
    pair = read_pair(line, rest)
    if pair not in page.pairs:
        raise BadEntry(line)
    return (line, Page(page.spaces, page.helpers, tuple([other for other in page.pairs if other != pair])))


# What is done by a line that begins with a word and a space; the rest is what follows the space.
ACTIONS = {
    "kind": enter_kind,
    "drop": drop_kind,
    "help": add_helper,
    "stop": stop_helper,
    "ask": add_pair,
    "leave": leave_pair,
}


def done_line(world, page, line):
    """Return the line as it is written down, and the page that it makes of a page, or raise an error."""
    word, _, rest = line.partition(" ")
    if word not in ACTIONS:
        raise BadEntry(line)
    action = ACTIONS[word]
    return action(world, page, line, rest)
