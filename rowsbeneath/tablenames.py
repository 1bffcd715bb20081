"""The names in a table's text: what each of them stands for.

Names are looked at in the order of the text, since the first one for which something is due
is the one that is refused. What is known of names is a dict: for each name a tuple (sort, sel).
"""

from rowsbeneath.errors import NoFit, NoName, Twice
from rowsbeneath.tables import Table


def table_of_form(form):
    """The Table of a tree that read_form has made."""
    width, cells, depth, places, marks, gates, kinds = form
    names = {}
    for i, name in enumerate(places):
        add_name(names, name, "place", ("is", i))
    for i, name in enumerate(marks):
        add_name(names, name, "mark", ("is", i))
    gate = None
    for name in gates:
        need_known(names, name, ("mark",))
        gate = name
    kinds_known = kinds_named(names, kinds)
    return Table(width, cells, depth, places, marks, gate, kinds_known)


def add_name(names, name, sort, sel):
    """Makes a name known, which none has so far."""
    if name in names:
        raise Twice(name)
    names[name] = (sort, sel)


def need_known(names, name, sorts):
    """What a name stands for, which has to be of one of these sorts."""
    if name not in names:
        raise NoName(name)
    sort, sel = names[name]
    if sort not in sorts:
        raise NoFit(name)
    return (sort, sel)


def kinds_named(names, kinds):
    """All kinds, as a tuple of tuples (name, fields, deed)."""
    named = []
    taken = {}
    for name, fields, body in kinds:
        if name in taken:
            raise Twice(name)
        taken[name] = True
        deed = deed_of(names_with_fields(names, fields), body)
        named.append((name, fields, deed))
    return tuple(named)


def names_with_fields(names, fields):
    """The names that are known within a kind."""
    within = dict(names)
    for j, (name, sort) in enumerate(fields):
        add_name(within, name, sort, ("by", j))
    return within


def deed_of(names, body):
    """The deed of a body."""
    if body[0] == "if":
        test = test_of(names, body[1])
        yes = deed_of(names, body[2])
        return ("if", test, yes, deed_of(names, body[3]))
    sets = tuple([set_of(names, given) for given in body[1]])
    return ("leaf", sets, end_of(names, body[2]))


def test_of(names, test):
    """A test, of its word and its name."""
    word, name = test
    if word == "top":
        return ("top", need_known(names, name, ("place",))[1])
    return need_known(names, name, ("place", "mark"))


def set_of(names, given):
    """A set, of a cell or of what a name stands for."""
    sort, target, word = given
    if sort == "cell":
        address = expression_of(names, target)
        return ("cell", address, expression_of(names, word))
    sort, sel = need_known(names, target, ("place", "mark"))
    return (sort, sel, expression_of(names, word))


def end_of(names, end):
    """An end, with a field's number behind `go` and `call`."""
    if end[0] in ("go", "call"):
        return (end[0], need_known(names, end[1], ("row",))[1][1])
    return end


def expression_of(names, e):
    """An expression, with what its names stand for."""
    if e[0] == "number":
        return e
    if e[0] == "name":
        sort, sel = need_known(names, e[1], ("place", "mark", "number"))
        return ("field", sel[1]) if sort == "number" else (sort, sel)
    if e[0] == "cell":
        return ("cell", expression_of(names, e[1]))
    one = expression_of(names, e[1])
    return (e[0], one, expression_of(names, e[2]))
