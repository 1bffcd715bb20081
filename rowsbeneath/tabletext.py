"""The text of a table: cut into tokens, read, and shown."""

from rowsbeneath.errors import NoText
from rowsbeneath.tableform import read_form
from rowsbeneath.tablenames import table_of_form

MOST_SIGNS = 20000
GAPS = " \n"
SINGLE_SIGNS = "(){}[],;+-&|^<="
DOUBLE_SIGNS = ("<<", ">>")


def tokens_of(text):
    """The tokens of a text, in their order."""
    tokens = []
    at = 0
    while at < len(text):
        if text[at] in GAPS:
            at += 1
        else:
            token = sign_at(text, at) or run_at(text, at)
            tokens.append(token)
            at += len(token)
    return tokens


def sign_at(text, at):
    """The sign that is a token by itself and begins here; where there is none, the text without signs."""
    if text[at:at + 2] in DOUBLE_SIGNS:
        return text[at:at + 2]
    if text[at] in SINGLE_SIGNS:
        return text[at]
    return ""


def run_at(text, at):
    """The longest run of other signs that begins here."""
    behind = at
    while behind < len(text) and text[behind] not in GAPS and sign_at(text, behind) == "":
        behind += 1
    return text[at:behind]


def read_table(text):
    """The Table that is written so, of any thing."""
    if not isinstance(text, str) or len(text) > MOST_SIGNS:
        raise NoText(0)
    return table_of_form(read_form(tokens_of(text)))


def show_table(table):
    """The text of a table, a line for what is told first and one for each kind."""
    lines = [" ".join(head_shown(table))]
    for kind in table.kinds:
        lines.append(" ".join(kind_shown(table, kind)))
    return "\n".join(lines)


def head_shown(table):
    """The tokens ahead of the kinds."""
    gates = [] if table.gate is None else [table.gate]
    numbers = ["word", str(table.width), ";", "cells", str(table.cells), ";", "depth", str(table.depth), ";"]
    places = ["places"] + list(table.places) + [";"]
    marks = ["marks"] + list(table.marks) + [";"]
    return numbers + places + marks + ["gate"] + gates + [";"]


def kind_shown(table, kind):
    """The tokens of a kind."""
    fields = []
    for name, sort in table.fields_of(kind):
        fields += [name, sort, ","]
    body = body_shown(names_by_number(table, kind), table.deed(kind))
    return ["kind", kind, "("] + fields[:-1] + [")"] + body


def names_by_number(table, kind):
    """The names of places, of marks and of the kind's fields, by keys (sort, how it is told, number)."""
    names = {}
    for i, name in enumerate(table.places):
        names[("place", "is", i)] = name
    for i, name in enumerate(table.marks):
        names[("mark", "is", i)] = name
    for j, (name, sort) in enumerate(table.fields_of(kind)):
        names[(sort, "by", j)] = name
    return names


def sel_shown(names, sort, sel):
    """The name of a place or a mark."""
    return names[(sort, sel[0], sel[1])]


def body_shown(names, deed):
    """The tokens of a deed, with its braces."""
    if deed[0] == "if":
        yes = body_shown(names, deed[2])
        no = body_shown(names, deed[3])
        return ["{", "if"] + test_shown(names, deed[1]) + yes + ["else"] + no + ["}"]
    sets = []
    for given in deed[1]:
        sets += set_shown(names, given)
    return ["{"] + sets + end_shown(names, deed[2]) + ["}"]


def test_shown(names, test):
    """The tokens of a test."""
    if test[0] == "top":
        return ["top", sel_shown(names, "place", test[1])]
    return [sel_shown(names, test[0], test[1])]


def set_shown(names, given):
    """The tokens of a set."""
    if given[0] == "cell":
        target = ["["] + expression_shown(names, given[1]) + ["]"]
    else:
        target = [sel_shown(names, given[0], given[1])]
    return ["set"] + target + ["="] + expression_shown(names, given[2]) + [";"]


def end_shown(names, end):
    """The tokens of an end."""
    if end[0] in ("go", "call"):
        return [end[0], names[("row", "by", end[1])]]
    return list(end)


def expression_shown(names, e):
    """The tokens of an expression."""
    if e[0] == "number":
        return [str(e[1])]
    if e[0] == "field":
        return [names[("number", "by", e[1])]]
    if e[0] in ("place", "mark"):
        return [sel_shown(names, e[0], e[1])]
    if e[0] == "cell":
        return ["["] + expression_shown(names, e[1]) + ["]"]
    one = expression_shown(names, e[1])
    return ["("] + one + [e[0]] + expression_shown(names, e[2]) + [")"]
