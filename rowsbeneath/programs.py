"""Rows and programs: what they are, and their texts."""

from rowsbeneath.errors import BadLine, NoRow
from rowsbeneath.figures import number_of
from rowsbeneath.sums import is_within, is_word

MOST_ROWS = 40
BELL = "bell"


def same_shape(one, other):
    """Whether two tables are alike in all but their deeds."""
    return shape_of(one) == shape_of(other)


def shape_of(table):
    """All that a table tells, but the deeds."""
    fields = tuple([table.fields_of(kind) for kind in table.kinds])
    return (table.width, table.cells, table.depth, table.places, table.marks, table.gate, table.kinds, fields)


def is_row(table, thing, rows):
    """Whether the thing is a row for the table, its numbers of rows from 0 to rows."""
    if not isinstance(thing, tuple) or len(thing) != 2 or thing[0] not in table.kinds:
        return False
    fields = table.fields_of(thing[0])
    operands = thing[1]
    if not isinstance(operands, tuple) or len(operands) != len(fields):
        return False
    return all([is_operand(table, sort, number, rows) for (name, sort), number in zip(fields, operands)])


def is_operand(table, sort, thing, rows):
    """Whether the thing may stand in a field of the sort."""
    if sort == "place":
        return is_within(thing, 0, len(table.places) - 1)
    if sort == "mark":
        return is_within(thing, 0, len(table.marks) - 1)
    if sort == "number":
        return is_word(thing, table.width)
    return is_within(thing, 0, rows)


class Program:
    """Rows, and a bell row's number or None; the functions here alone make one, and it never changes."""

    def __init__(self, rows, bell):
        self.rows = tuple(rows)
        self.bell = bell


def program_of(table, rows, bell=None):
    """The Program of these things, whatever they are."""
    if not isinstance(rows, (list, tuple)):
        raise NoRow(rows)
    for at, row in enumerate(rows):
        if at == MOST_ROWS or not is_row(table, row, len(rows)):
            raise NoRow(row)
    if bell is not None and not is_within(bell, 0, len(rows)):
        raise NoRow(bell)
    return Program(rows, bell)


def show_program(table, program):
    """The text of a program, a line for the bell row and one for each row."""
    lines = [] if program.bell is None else [f"{BELL} {program.bell}"]
    for kind, operands in program.rows:
        sorts = [sort for name, sort in table.fields_of(kind)]
        shown = [operand_shown(table, sort, number) for sort, number in zip(sorts, operands)]
        lines.append(" ".join([kind] + shown))
    return "\n".join(lines)


def operand_shown(table, sort, number):
    """The word of a line that tells an operand."""
    if sort == "place":
        return table.places[number]
    if sort == "mark":
        return table.marks[number]
    return str(number)


def read_program(table, text):
    """The Program that is written so, of any thing."""
    if not isinstance(text, str):
        raise BadLine(0)
    lines = text.split("\n") if text else []
    ahead = 1 if lines and lines[0].split(" ")[0] == BELL else 0
    many = len(lines) - ahead
    bell = read_bell(lines[0], many) if ahead else None
    rows = []
    for at, line in enumerate(lines[ahead:]):
        row = None if at == MOST_ROWS else row_read(table, line, many)
        if row is None:
            raise BadLine(ahead + at)
        rows.append(row)
    return Program(rows, bell)


def read_bell(line, rows):
    """The number of the bell row, which its line tells."""
    number = number_of(line[len(BELL) + 1:])
    if not is_within(number, 0, rows):
        raise BadLine(0)
    return number


def row_read(table, line, rows):
    """The row that a line tells, its numbers of rows from 0 to rows, or None."""
    words = line.split(" ")
    kind = words[0]
    if kind not in table.kinds or len(words) != len(table.fields_of(kind)) + 1:
        return None
    sorts = [sort for name, sort in table.fields_of(kind)]
    operands = tuple([operand_read(table, sort, word) for sort, word in zip(sorts, words[1:])])
    return (kind, operands) if is_row(table, (kind, operands), rows) else None


def operand_read(table, sort, word):
    """The number that a word of a line tells in a field of the sort, or None."""
    if sort in ("place", "mark"):
        names = table.places if sort == "place" else table.marks
        return names.index(word) if word in names else None
    return number_of(word)
