"""The form of a table's text: its tokens, one by one, become a tree with bare names.

The tree is a tuple (width, cells, depth, places, marks, gates, kinds), gates a tuple of at most one
name, kinds a tuple of tuples (name, fields, body). A body is a deed, but that names stand in it:
a test is (word, name) with the word `if` or `top`, a set ("name", name, e) or ("cell", e, e),
a name in an expression ("name", name), and behind `go` and `call` stands the field's name.
"""

from rowsbeneath.errors import NoText
from rowsbeneath.figures import number_of
from rowsbeneath.sums import is_name, is_within, ops_told

MOST_TOKENS = 1500
MOST_KINDS = 8
MOST_FIELDS = 3
MOST_SETS = 4
MOST_CHOICES = 3
MOST_BRACKETS = 3
SORTS = ("place", "mark", "number", "row")
ENDS = ("next", "go", "call", "back", "stop", "fault")
OWN_FAULTS = ("deep", "bare")


class Reader:
    """Goes along the tokens, and refuses the first one that cannot stand where it stands."""

    def __init__(self, tokens):
        # The text without signs can stand nowhere: so the end, and the token beyond the most, are refused.
        self.tokens = tokens[:MOST_TOKENS] + [""]
        self.spot = 0
        self.may_end = len(tokens) <= MOST_TOKENS

    def look(self):
        """The token that comes next."""
        return self.tokens[self.spot]

    def take(self):
        """The token that comes next; the reader goes on behind it."""
        self.spot += 1
        return self.tokens[self.spot - 1]

    def need(self, words):
        """Takes a token that has to be one of these words."""
        if self.look() not in words:
            raise NoText(self.spot)
        return self.take()

    def need_name(self):
        """Takes a token that has to be a name."""
        if not is_name(self.look()):
            raise NoText(self.spot)
        return self.take()

    def need_number(self, low, high):
        """Takes a token that has to be a number from low to high."""
        number = number_of(self.look())
        if not is_within(number, low, high):
            raise NoText(self.spot)
        self.spot += 1
        return number

    def need_end(self):
        """Refuses whatever comes, but the end of the text."""
        if not self.may_end or self.spot + 1 < len(self.tokens):
            raise NoText(self.spot)


def read_form(tokens):
    """The tree of a whole text."""
    reader = Reader(tokens)
    width = read_bounded(reader, "word", 4, 24)
    cells = read_bounded(reader, "cells", 4, 64)
    depth = read_bounded(reader, "depth", 0, 8)
    places = read_names(reader, "places", 1, 4)
    marks = read_names(reader, "marks", 0, 3)
    gates = read_names(reader, "gate", 0, 1)
    kinds = [read_kind(reader, width)]
    while len(kinds) < MOST_KINDS and reader.look() == "kind":
        kinds.append(read_kind(reader, width))
    reader.need_end()
    return (width, cells, depth, places, marks, gates, tuple(kinds))


def read_bounded(reader, word, low, high):
    """The number behind one of the first words."""
    reader.need((word,))
    number = reader.need_number(low, high)
    reader.need((";",))
    return number


def read_names(reader, word, least, most):
    """The names behind one of the first words."""
    reader.need((word,))
    names = []
    while len(names) < least or len(names) < most and reader.look() != ";":
        names.append(reader.need_name())
    reader.need((";",))
    return tuple(names)


def read_kind(reader, width):
    """A kind, as a tuple (name, fields, body)."""
    reader.need(("kind",))
    name = reader.need_name()
    fields = read_fields(reader)
    return (name, fields, read_body(reader, width, 0))


def read_fields(reader):
    """The fields in their brackets."""
    reader.need(("(",))
    fields = []
    if reader.look() != ")":
        fields.append(read_field(reader))
    while 0 < len(fields) < MOST_FIELDS and reader.look() == ",":
        reader.take()
        fields.append(read_field(reader))
    reader.need((")",))
    return tuple(fields)


def read_field(reader):
    """A field, as a tuple (name, sort)."""
    name = reader.need_name()
    return (name, reader.need(SORTS))


def read_body(reader, width, choices):
    """A body that stands within so many choices."""
    reader.need(("{",))
    if choices < MOST_CHOICES and reader.look() == "if":
        body = read_choice(reader, width, choices + 1)
    else:
        body = read_leaf(reader, width)
    reader.need(("}",))
    return body


def read_choice(reader, width, choices):
    """A choice whose bodies stand within so many choices."""
    reader.need(("if",))
    test = read_test(reader)
    yes = read_body(reader, width, choices)
    reader.need(("else",))
    return ("if", test, yes, read_body(reader, width, choices))


def read_test(reader):
    """A test, by its word and its name."""
    if reader.look() == "top":
        return (reader.take(), reader.need_name())
    return ("if", reader.need_name())


def read_leaf(reader, width):
    """Sets and an end."""
    sets = []
    while len(sets) < MOST_SETS and reader.look() == "set":
        reader.take()
        cell_free = all([given[0] != "cell" for given in sets])
        sets.append(read_set(reader, width, cell_free))
    return ("leaf", tuple(sets), read_end(reader))


def read_set(reader, width, cell_free):
    """What stands behind `set`; of a cell only where the leaf has set none so far."""
    if cell_free and reader.look() == "[":
        reader.take()
        sort = "cell"
        given = read_expression(reader, width, 0)
        reader.need(("]",))
    else:
        sort = "name"
        given = reader.need_name()
    reader.need(("=",))
    word = read_expression(reader, width, 0)
    reader.need((";",))
    return (sort, given, word)


def read_end(reader):
    """An end, with the bare name behind it."""
    end = reader.need(ENDS)
    if end == "fault" and reader.look() in OWN_FAULTS:
        raise NoText(reader.spot)
    if end in ("go", "call", "fault"):
        return (end, reader.need_name())
    return (end,)


def read_expression(reader, width, brackets):
    """An expression, or a part of one that stands within so many of its brackets."""
    token = reader.look()
    if brackets < MOST_BRACKETS and token == "[":
        return read_cell(reader, width, brackets + 1)
    if brackets < MOST_BRACKETS and token == "(":
        return read_two(reader, width, brackets + 1)
    if is_name(token):
        return ("name", reader.take())
    return ("number", reader.need_number(0, (1 << width) - 1))


def read_cell(reader, width, brackets):
    """A cell in an expression."""
    reader.need(("[",))
    address = read_expression(reader, width, brackets)
    reader.need(("]",))
    return ("cell", address)


def read_two(reader, width, brackets):
    """Two expressions and the operation between them."""
    reader.need(("(",))
    one = read_expression(reader, width, brackets)
    op = reader.need(ops_told())
    other = read_expression(reader, width, brackets)
    reader.need((")",))
    return (op, one, other)
