"""Texts of kinds and worlds, and the reader of tokens that all readers of texts use."""

from nonames.errors import BadText
from nonames.kinds import FORMS, check_kind
from nonames.worlds import World

# The signs of which the longest runs are one token.
RUNS = (("a", "z"), ("0", "9"))

SORTS = ("a", "b")


def run_end(text, start):
    """Return the place behind the token, or the space, that begins at a place."""
    end = start + 1
    for low, high in RUNS:
        if low <= text[start] <= high:
            while end < len(text) and low <= text[end] <= high:
                end += 1
    return end


def tokens_of(text):
    """Yield the place and the sign or run of each token, from left to right."""
    start = 0
    while start < len(text):
        end = run_end(text, start)
        if text[start] != " ":
            yield (start, text[start:end])
        start = end


def is_number(token):
    """Tell whether a token, which may be empty, is a run of digits without leading zeros."""
    return token == "0" or "1" <= token[:1] <= "9"


class Reader:
    """Goes through the tokens of a text from left to right."""

    DEEPEST = 20

    def __init__(self, text):
        self.text = text
        self.tokens = list(tokens_of(text))
        self.at = 0
        self.opened = 0

    def token(self):
        """Return the next token, or the empty text at the end."""
        return self.tokens[self.at][1] if self.at < len(self.tokens) else ""

    def refuse(self):
        """Raise the error for the next token, which cannot stand here."""
        place = self.tokens[self.at][0] if self.at < len(self.tokens) else len(self.text)
        raise BadText(self.text, place)

    def take(self, allowed):
        """Return the next token, which must be one of these, and go on behind it."""
        token = self.token()
        if token not in allowed:
            self.refuse()
        self.at += 1
        return token

    def take_number(self):
        """Return the number that comes next, and go on behind it."""
        token = self.token()
        if not is_number(token):
            self.refuse()
        self.at += 1
        return int(token)

    def take_opening(self):
        """Go on behind an opening parenthesis."""
        if self.opened >= self.DEEPEST:
            self.refuse()
        self.take(("(",))
        self.opened += 1

    def take_closing(self):
        """Go on behind a closing parenthesis."""
        self.take((")",))
        self.opened -= 1

    def take_sum(self):
        """Return the numbers that come next, joined by `+`, as a tuple."""
        numbers = [self.take_number()]
        while self.token() == "+":
            self.take(("+",))
            numbers.append(self.take_number())
        return tuple(numbers)

    def finish(self):
        """Make sure that nothing comes any more."""
        if self.at < len(self.tokens):
            self.refuse()


def sum_text(numbers):
    """Return the numbers, joined by `+`."""
    return "+".join([str(number) for number in numbers])


def item_text(item, word, spaced):
    """Return the text of an item of a kind that stands where the form has this word."""
    if word == "kind":
        return format_kind(item, spaced=spaced)
    if word == "sort":
        return SORTS[item]
    if word == "sizes":
        return sum_text(item)
    return str(item)


def format_kind(kind, *, spaced=False):
    """Return the text of a kind, with one space after each comma if it is to be spaced."""
    comma = ", " if spaced else ","
    texts = [item_text(item, word, spaced) for item, word in zip(kind[1:], FORMS[kind[0]])]
    return kind[0] + "(" + comma.join(texts) + ")"


def read_item(reader, word):
    """Read an item of a kind that stands where the form has this word."""
    if word == "kind":
        return read_kind(reader)
    if word == "sort":
        return SORTS.index(reader.take(SORTS))
    if word == "sizes":
        return reader.take_sum()
    return reader.take_number()


def read_kind(reader):
    """Read a kind, whatever its numbers, sorts and sizes are."""
    tag = reader.take(list(FORMS))
    reader.take_opening()
    kind = (tag,)
    for at, word in enumerate(FORMS[tag]):
        if at > 0:
            reader.take((",",))
        kind = kind + (read_item(reader, word),)
    reader.take_closing()
    return kind


def parse_kind(text, sorts):
    """Return the kind with this text, or raise BadText or else BadKind."""
    reader = Reader(text)
    kind = read_kind(reader)
    reader.finish()
    check_kind(kind, sorts)
    return kind


def format_world(world):
    """Return the text of a world."""
    return sum_text(world.sizes)


def parse_world(text):
    """Return the world with this text, or raise BadText or else BadWorld."""
    reader = Reader(text)
    sizes = reader.take_sum()
    reader.finish()
    return World(sizes)
