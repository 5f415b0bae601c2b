"""Desks: kinds with names, helpers and questions for one world."""

from nonames.books import KindBook
from nonames.entries import Page, ask_line, done_line, help_line, kind_line
from nonames.errors import BadEntry, NonamesError, NothingToUndo, UnknownName
from nonames.lattices import Lattice
from nonames.plans import good_groups
from nonames.sizes import least_sizes
from nonames.texts import format_world, parse_world
from nonames.verdicts import find_verdict
from nonames.worlds import World

LARGEST_SIZE = 12

# What the first row of a written desk begins with.
WORLD_MARK = "world "


def checked_top(value):
    """Return the value, or raise BadEntry if it cannot be the greatest size that is looked at."""
    if not 0 <= value <= LARGEST_SIZE:
        raise BadEntry(value)
    return value


class Desk:
    """Kinds with names, helpers and questions; lines change them and can be taken back."""

    def __init__(self, sizes):
        self.world = World(sizes)
        self.lattice = Lattice(self.world)
        self._page = Page({}, (), ())
        # Each line that was done, with the page before it.
        self._done = ()
        self._top = LARGEST_SIZE

    @classmethod
    def read(cls, text):
        """Return the desk that was written as a text, or raise the error of its first wrong line."""
        rows = text.split("\n")
        if not rows[0].startswith(WORLD_MARK):
            raise BadEntry(rows[0])
        world = parse_world(rows[0][len(WORLD_MARK):])
        desk = cls(world.sizes)
        for row in rows[1:]:
            desk.do(row)
        desk._done = ()
        return desk

    @property
    def allowed(self):
        """The helpers, a tuple."""
        return self._page.helpers

    @property
    def questions(self):
        """The questions, a tuple."""
        return self._page.pairs

    @property
    def lines(self):
        """The lines that were done and not taken back, a tuple."""
        return tuple([line for line, _ in self._done])

    @property
    def top(self):
        """The greatest size that is looked at."""
        return self._top

    @top.setter
    def top(self, value):
        self._top = checked_top(value)

    def set_top(self, value):
        """Set the greatest size that is looked at, or raise BadEntry."""
        self._top = checked_top(value)

    def do(self, line):
        """Do a line, or raise an error and change nothing."""
        written, page = done_line(self.world, self._page, line)
        self._done = self._done + ((written, self._page),)
        self._page = page

    def undo(self):
        """Take the last line back and return it, or raise NothingToUndo."""
        if not self._done:
            raise NothingToUndo(None)
        line, page = self._done[-1]
        self._done = self._done[:-1]
        self._page = page
        return line

    def write(self):
        """Return a text from which `read` makes a desk with the same world, kinds, helpers and questions."""
        rows = [WORLD_MARK + format_world(self.world)]
        rows.extend([kind_line(name, space.kind) for name, space in self._page.spaces.items()])
        rows.extend([help_line(helper) for helper in self._page.helpers])
        rows.extend([ask_line(pair) for pair in self._page.pairs])
        return "\n".join(rows)

    def __getitem__(self, name):
        return self.space_of(name).kind

    def __contains__(self, name):
        return name in self._page.spaces

    def __iter__(self):
        return iter(self._page.spaces)

    def space_of(self, name):
        """Return the space of the kind of a name, or raise UnknownName."""
        if name not in self._page.spaces:
            raise UnknownName(name)
        return self._page.spaces[name]

    def verdict_of(self, name, other):
        """Return the verdict whether one kind makes another one with the helpers, or raise UnknownName."""
        source = self.space_of(name)
        goal = self.space_of(other)
        return find_verdict(self.lattice, source, goal, helpers=self._page.helpers)

    def least_for(self, name, other):
        """List the least lots of sizes from one kind to another one, or raise UnknownName."""
        start = good_groups(self.lattice, self.space_of(name))
        goal = good_groups(self.lattice, self.space_of(other))
        return least_sizes(self.lattice, start, goal, top=self._top)

    def verdicts(self):
        """List the two names and the word of the verdict for each question."""
        return [(name, other, self.verdict_of(name, other)[0]) for name, other in self._page.pairs]

    def book(self):
        """Return a new book of the kinds."""
        book = KindBook(self.lattice)
        for name, space in self._page.spaces.items():
            book[name] = space.kind
        return book


def do_all(desk, lines):
    """Do several lines and return their number, or raise the error of the first wrong one and change nothing."""
    page = desk._page
    done = desk._done
    try:
        for line in lines:
            desk.do(line)
    except NonamesError:
        desk._page = page
        desk._done = done
        raise
    return len(lines)
