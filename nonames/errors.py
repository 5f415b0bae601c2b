"""The errors that the program raises."""


class NonamesError(ValueError):
    """The base class of all errors of the program."""

    def __init__(self, given):
        self.given = given


class BadWorld(NonamesError):
    """The sizes are not the sizes of a world."""


class BadRenaming(NonamesError):
    """The tuple is not a renaming of the world."""


class BadKind(NonamesError):
    """The value is not a kind for the world."""


class TooMany(NonamesError):
    """The kind has more structures than can be worked with."""


class BadStructure(NonamesError):
    """The value is not a structure of the kind."""


class BadGroup(NonamesError):
    """The tuple is not a group of the world."""


class BadAction(NonamesError):
    """The rows are not the moves of an action."""


class BadMarks(NonamesError):
    """The numbers are not marks, or not the marks of any counts."""


class BadRule(NonamesError):
    """The choices are not those of a rule."""


class BadHelper(NonamesError):
    """The value is not a helper."""


class BadMove(NonamesError):
    """The family cannot be asked."""


class BadPick(NonamesError):
    """The values are not a picking."""


class BadPower(NonamesError):
    """The classes are not a power."""


class BadMap(NonamesError):
    """The value is not a map between the kinds."""


class BadEntry(NonamesError):
    """The entry has none of the forms that it may have."""


class UnknownName(NonamesError):
    """The name has no kind."""


class NothingToUndo(NonamesError):
    """There is nothing to take back."""


class Impossible(NonamesError):
    """What was asked for cannot be made; the given value is the reason."""


class BadText(NonamesError):
    """The text does not have the form; `place` is where it goes wrong."""

    def __init__(self, given, place):
        NonamesError.__init__(self, given)
        self.place = place


class NoRule(Impossible):
    """There is no rule."""


class NoWay(Impossible):
    """There is no rule of the wanted sort."""


class NoPlan(Impossible):
    """There is no plan."""


class NoBridge(Impossible):
    """There is no bridge."""


class NoDivision(Impossible):
    """The map has no division."""
