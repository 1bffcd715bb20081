"""Promises 91 to 94 once more, told otherwise than in the program, to hold it against.

A machine is a dict here, and each beat makes another one; rooms are lists of told little rows.
"""

from tests.oracle_above import behind_end, picked, reckoned, with_one


def first(table, room, entries, many, program, cells):
    """The machine ahead of its first beat."""
    filled = tuple(cells) + (0,) * (table.cells - len(cells))
    state = ("on", None, 0, (0,) * len(table.places), (0,) * len(table.marks), filled, ())
    return {"table": table, "room": room, "entries": entries, "program": program, "state": state, "inner": (0,) * many,
            "coming": None, "waits": False, "rows": 0, "noted": (), "beats": 0}


def rung(machine):
    return {**machine, "waits": machine["waits"] or machine["program"].bell is not None}


def seen(machine):
    return machine["state"] + (machine["rows"], machine["noted"])


def ahead_of_a_row(machine):
    """The machine behind what is done ahead of a row."""
    table, program = machine["table"], machine["program"]
    word, fault, at, places, marks, cells, pile = machine["state"]
    waits, noted = machine["waits"], machine["noted"]
    if word == "on" and waits and not (table.gate is not None and marks[table.marks.index(table.gate)]):
        waits, noted = False, noted + (machine["rows"],)
        if len(pile) < table.depth:
            at, pile = program.bell, pile + (at,)
        else:
            word, fault = "fault", "deep"
    if word == "on" and at == len(program.rows):
        word = "end"
    return {**machine, "state": (word, fault, at, places, marks, cells, pile), "waits": waits, "noted": noted}


def behind_steps(table, state, inner, operands, steps):
    """(state, inner) behind the steps of one beat."""
    word, fault, at, places, marks, cells, pile = state

    def taken(source):
        return {"in": inner, "field": operands}.get(source[0], {source[1]: source[1]})[source[1]]

    new_inner, new_places, new_marks, new_cells = inner, places, marks, cells
    for step in steps:
        if step[0] == "get":
            new_inner = with_one(new_inner, step[1], places[picked(step[2], operands)])
        elif step[0] == "ask":
            new_inner = with_one(new_inner, step[1], marks[picked(step[2], operands)])
        elif step[0] == "cell":
            new_inner = with_one(new_inner, step[1], cells[taken(step[2]) % len(cells)])
        elif step[0] == "two":
            new_inner = with_one(new_inner, step[1], reckoned(step[2], taken(step[3]), taken(step[4]), table.width))
        elif step[0] == "put":
            new_places = with_one(new_places, picked(step[1], operands), taken(step[2]))
        elif step[0] == "tell":
            new_marks = with_one(new_marks, picked(step[1], operands), min(taken(step[2]), 1))
        else:
            new_cells = with_one(new_cells, taken(step[1]) % len(cells), taken(step[2]))
    return (word, fault, at, new_places, new_marks, new_cells, pile), new_inner


def beat(machine):
    """(the machine behind one asking, whether a beat was done)."""
    if machine["coming"] is None:
        machine = ahead_of_a_row(machine)
        if machine["state"][0] != "on":
            return machine, False
    table, state = machine["table"], machine["state"]
    kind, operands = machine["program"].rows[state[2]]
    address = machine["entries"][kind] if machine["coming"] is None else machine["coming"]
    steps, on = machine["room"][address]
    state, inner = behind_steps(table, state, machine["inner"], operands, steps)
    coming, rows = None, machine["rows"]
    if on[0] == "done":
        state, rows = behind_end(table, state, on[1], operands), rows + 1
    elif on[0] == "on":
        coming = on[1]
    else:
        coming = on[2] if inner[on[1]] >= {"some": 1, "top": 2 ** (table.width - 1)}[on[0]] else on[3]
    return {**machine, "state": state, "inner": inner, "coming": coming, "rows": rows, "beats": machine["beats"] + 1}, True
