"""Promises 4, 5, 36 to 39 and 30 once more, told otherwise than in the program, to hold it against.

A state is a told tuple here, (word, fault, at, places, marks, cells, pile), and nothing is ever changed.
"""


def reckoned(op, x, y, width):
    whole = 2 ** width
    return {
        "+": lambda: (x + y) % whole, "-": lambda: (x - y) % whole, "&": lambda: x & y, "|": lambda: x | y,
        "^": lambda: x ^ y, "<<": lambda: x * 2 ** (y % width) % whole, ">>": lambda: x // 2 ** (y % width),
        "<": lambda: int(x < y), "=": lambda: int(x == y),
    }[op]()


def picked(sel, operands):
    return {"is": lambda n: n, "by": lambda n: operands[n]}[sel[0]](sel[1])


def value(table, state, operands, e):
    """The word of an expression."""
    _, _, _, places, marks, cells, _ = state
    head, *rest = e
    if head == "number":
        return rest[0]
    if head == "field":
        return operands[rest[0]]
    if head == "place":
        return places[picked(rest[0], operands)]
    if head == "mark":
        return marks[picked(rest[0], operands)]
    words = [value(table, state, operands, part) for part in rest]
    return cells[words[0] % len(cells)] if head == "cell" else reckoned(head, *words, table.width)


def leaf(table, state, operands, deed):
    if deed[0] == "leaf":
        return deed
    (sort, sel), yes, no = deed[1:]
    word = value(table, state, operands, ("mark" if sort == "mark" else "place", sel))
    truth = word >= 2 ** (table.width - 1) if sort == "top" else word > 0
    return leaf(table, state, operands, yes if truth else no)


def with_one(things, at, thing):
    return things[:at] + (thing,) + things[at + 1:]


def behind_end(table, state, end, operands):
    """The state behind an end."""
    word, fault, at, places, marks, cells, pile = state
    if end[0] == "call" and len(pile) == table.depth:
        end = ("fault", "deep")
    if end[0] == "back" and not pile:
        end = ("fault", "bare")
    if end[0] == "next":
        at = at + 1
    elif end[0] == "go":
        at = operands[end[1]]
    elif end[0] == "call":
        at, pile = operands[end[1]], pile + (at + 1,)
    elif end[0] == "back":
        at, pile = pile[-1], pile[:-1]
    else:
        word, fault = end[0], (end[1:] or (None,))[0]
    return (word, fault, at, places, marks, cells, pile)


def behind_row(table, state, row):
    """The state behind a row."""
    kind, operands = row
    _, sets, end = leaf(table, state, operands, dict((name, deed) for name, _, deed in table.told()[6])[kind])
    word, fault, at, places, marks, cells, pile = state
    for sort, target, e in sets:
        new = value(table, state, operands, e)
        if sort == "place":
            places = with_one(places, picked(target, operands), new)
        elif sort == "mark":
            marks = with_one(marks, picked(target, operands), min(new, 1))
        else:
            cells = with_one(cells, value(table, state, operands, target) % len(cells), new)
    return behind_end(table, (word, fault, at, places, marks, cells, pile), end, operands)


def seen_behind(table, program, cells, asked, rings):
    """What is seen of a machine above behind so many askings, rung ahead of those whose numbers stand in rings."""
    filled = tuple(cells) + (0,) * (table.cells - len(cells))
    state = ("on", None, 0, (0,) * len(table.places), (0,) * len(table.marks), filled, ())
    waits, rows, noted = False, 0, ()
    for asking in range(asked):
        waits = waits or asking in rings and program.bell is not None
        word, fault, at, places, marks, cells, pile = state
        if word != "on":
            continue
        shut = table.gate is not None and dict(zip(table.marks, marks))[table.gate]
        if waits and not shut:
            waits, noted = False, noted + (rows,)
            if len(pile) == table.depth:
                word, fault = "fault", "deep"
            else:
                at, pile = program.bell, pile + (at,)
        if word == "on" and at == len(program.rows):
            word = "end"
        state = (word, fault, at, places, marks, cells, pile)
        if word == "on":
            state = behind_row(table, state, program.rows[at])
            rows += 1
    return state + (rows, noted)
