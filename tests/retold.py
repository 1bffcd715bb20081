"""Tables told otherwise: texts of deeds, and deeds that do the same, or nearly."""

from rowsbeneath.tabletext import read_table, show_table

NOUGHT = ("number", 0)


def deep(e):
    """How deep an expression is."""
    return 1 + max([deep(part) for part in e[1:] if e[0] not in ("number", "field", "place", "mark")], default=0)


def sel_words(table, kind, sort, sel):
    names = table.marks if sort == "mark" else table.places
    return names[sel[1]] if sel[0] == "is" else table.fields_of(kind)[sel[1]][0]


def e_words(table, kind, e):
    if e[0] == "number":
        return str(e[1])
    if e[0] == "field":
        return table.fields_of(kind)[e[1]][0]
    if e[0] in ("place", "mark"):
        return sel_words(table, kind, *e)
    if e[0] == "cell":
        return f"[ {e_words(table, kind, e[1])} ]"
    return f"( {e_words(table, kind, e[1])} {e[0]} {e_words(table, kind, e[2])} )"


def deed_words(table, kind, deed):
    """The text of a deed."""
    if deed[0] == "if":
        sort, sel = deed[1]
        test = ("top " if sort == "top" else "") + sel_words(table, kind, sort, sel)
        return "{ if " + f"{test} {deed_words(table, kind, deed[2])} else {deed_words(table, kind, deed[3])}" + " }"
    words = []
    for sort, target, e in deed[1]:
        to = f"[ {e_words(table, kind, target)} ]" if sort == "cell" else sel_words(table, kind, sort, target)
        words.append(f"set {to} = {e_words(table, kind, e)} ;")
    end = deed[2]
    words.append(f"{end[0]} {table.fields_of(kind)[end[1]][0]}" if end[0] in ("go", "call") else " ".join(end))
    return "{ " + " ".join(words) + " }"


def with_deeds(table, deeds):
    """The table of the same shape with other deeds for some kinds."""
    head = show_table(table).split("\n")[0]
    lines = []
    for kind in table.kinds:
        fields = " , ".join(f"{name} {sort}" for name, sort in table.fields_of(kind))
        lines.append(f"kind {kind} ( {fields} ) " + deed_words(table, kind, deeds.get(kind, table.deed(kind))))
    return read_table("\n".join([head] + lines))


def same_e(source, table, e, most=4):
    """A sum that is worth the same, at most so deep."""
    if e[0] in ("+", "-"):
        e = (e[0], same_e(source, table, e[1], most - 1), same_e(source, table, e[2], most - 1))
    if e[0] == "+" and source.random() < 0.5:
        e = ("+", e[2], e[1])
    if e[0] == "+" and e[1] == e[2] and source.random() < 0.7:
        e = ("<<", e[1], ("number", 1))
    if e[0] == "<<" and e[2][1] + table.width < 2 ** table.width and source.random() < 0.5:
        e = ("<<", e[1], ("number", e[2][1] + table.width))
    if e[0] == "cell" and e[1][0] == "number" and e[1][1] + table.cells < 2 ** table.width:
        e = ("cell", ("number", e[1][1] + table.cells))
    if deep(e) < most and source.random() < 0.3:
        e = source.choice([("+", e, NOUGHT), ("-", e, NOUGHT), ("+", NOUGHT, e), ("<<", e, NOUGHT)])
    return e


def same_deed(source, table, deed, some_leaf, choices=0, ahead=()):
    """A deed that does the same: sums turned about, sets of what is so already, further tests, dead arms."""
    if deed[0] == "if":
        arms = [same_deed(source, table, arm, some_leaf, choices + 1, ahead + ((deed[1], truth),))
                for arm, truth in ((deed[2], True), (deed[3], False))]
        return (deed[0], deed[1], *arms)
    sets = tuple((sort, target, e if sort == "mark" else same_e(source, table, e)) for sort, target, e in deed[1])
    if len(sets) < 4 and source.random() < 0.3:
        number = source.randrange(len(table.places))
        sets = (("place", ("is", number), ("place", ("is", number))),) + sets
    if len(sets) < 4 and all(given[0] != "cell" for given in sets) and source.random() < 0.3:
        at = source.choice([("number", 1), ("place", ("is", 0))])
        sets += (("cell", at, ("cell", at)),)
    told = ("leaf", sets, deed[2])
    if choices < 3 and ahead and source.random() < 0.3:
        test, truth = source.choice(ahead)
        return ("if", test, told, some_leaf) if truth else ("if", test, some_leaf, told)
    if choices < 3 and source.random() < 0.3:
        test = (source.choice(["place", "top"]), ("is", source.randrange(len(table.places))))
        return ("if", test, told, told)
    return told


def leaves_at(deed, way=()):
    """The ways to all leaves, as tuples of places in nested tuples."""
    if deed[0] == "leaf":
        return [way]
    return leaves_at(deed[2], way + (2,)) + leaves_at(deed[3], way + (3,))


def put_at(thing, way, new):
    """Nested tuples with one thing put otherwise."""
    if not way:
        return new
    return thing[:way[0]] + (put_at(thing[way[0]], way[1:], new),) + thing[way[0] + 1:]


def got_at(thing, way):
    for step in way:
        thing = thing[step]
    return thing
