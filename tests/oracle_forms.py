"""Promises 121 to 127 once more, told otherwise than in the program, to hold it against.

A form is a dict here, of atoms and, at None, the number.
"""

from tests.oracle_laying import leaves


def plain_set(given):
    sort, target, e = given
    if sort == "mark":
        return e[0] in ("number", "field", "place", "mark")
    return plain_sum(e) and (sort != "cell" or target[0] in ("number", "field", "place"))


def plain_sum(e):
    return {
        "number": lambda: True, "field": lambda: True, "place": lambda: True, "mark": lambda: True,
        "cell": lambda: e[1][0] in ("number", "field", "place"), "+": lambda: plain_sum(e[1]) and plain_sum(e[2]),
        "-": lambda: plain_sum(e[1]) and plain_sum(e[2]), "<<": lambda: plain_sum(e[1]) and e[2][0] == "number",
    }.get(e[0], lambda: False)()


def plain(table, kind):
    deed = dict((name, deed) for name, _, deed in table.told()[6])[kind]
    return all(plain_set(given) for leaf, _ in leaves(deed) for given in leaf[1])


def decides(known, test):
    for (sort, number), truth in known:
        if (sort, number) == test:
            return truth
        if number == test[1] and (sort, test[0], truth) == ("top", "place", True):
            return True
        if number == test[1] and (sort, test[0], truth) == ("place", "top", False):
            return False
    return None


def place_of(chosen, sel):
    return {"is": lambda n: n, "by": lambda n: chosen[n]}[sel[0]](sel[1])


def address(table, chosen, known, e):
    if e[0] == "place":
        number = place_of(chosen, e[1])
        return ("number", 0) if decides(known, ("place", number)) is False else ("place", number)
    return ("number", e[1] % table.cells) if e[0] == "number" else e


def loose(table, chosen, known, e):
    """The form as a dict, not taken to its rest."""
    if e[0] == "number":
        return {None: e[1]}
    if e[0] == "field":
        return {e: 1}
    if e[0] == "cell":
        return {("cell", address(table, chosen, known, e[1])): 1}
    if e[0] in ("place", "mark"):
        number = place_of(chosen, e[1])
        truth = decides(known, (e[0], number))
        if truth is False or truth and e[0] == "mark":
            return {None: int(truth)}
        return {(e[0], number): 1}
    one = loose(table, chosen, known, e[1])
    if e[0] == "<<":
        return {atom: times * 2 ** (e[2][1] % table.width) for atom, times in one.items()}
    other = loose(table, chosen, known, e[2])
    sign = {"+": 1, "-": -1}[e[0]]
    return {atom: one.get(atom, 0) + sign * other.get(atom, 0) for atom in {*one, *other}}


def form(table, chosen, known, e):
    told = {atom: times % 2 ** table.width for atom, times in loose(table, chosen, known, e).items()}
    number = told.pop(None, 0)
    return (number, tuple(sorted((atom, times) for atom, times in told.items() if times)))


def effect(table, chosen, known, leaf):
    _, sets, end = leaf
    if not table.depth:
        end = {"call": ("fault", "deep"), "back": ("fault", "bare")}.get(end[0], end)
    places = {number: ("place", ("is", number)) for number in range(len(table.places))}
    marks = {number: ("mark", ("is", number)) for number in range(len(table.marks))}
    cell = None
    for sort, target, e in sets:
        if sort == "cell":
            cell = (address(table, chosen, known, target), form(table, chosen, known, e))
        else:
            {"place": places, "mark": marks}[sort][place_of(chosen, target)] = e
    if cell is not None and cell[1] == (0, ((("cell", cell[0]), 1),)):
        cell = None
    bits = []
    for e in marks.values():
        if e[0] == "number":
            bits.append(("number", min(1, e[1])))
            continue
        told = e if e[0] == "field" else (e[0], place_of(chosen, e[1]))
        truth = decides(known, told)
        bits.append(told if truth is None or e[0] == "field" else ("number", int(truth)))
    return (end, tuple(form(table, chosen, known, e) for e in places.values()), tuple(bits), cell)


def come(deed, chosen, known):
    """The leaf to which known leads, or None."""
    while deed[0] == "if":
        truth = decides(known, (deed[1][0], place_of(chosen, deed[1][1])))
        if truth is None:
            return None
        deed = deed[2] if truth else deed[3]
    return deed


def just(thing, told):
    """Whether two things are equal, kind by kind."""
    return type(thing) is type(told) and (
        thing == told if type(told) is not tuple else len(thing) == len(told) and all(map(just, thing, told)))


def case_good(tables, kind, chosen, known, case):
    if type(case) is not tuple or not case:
        return False
    if case[0] == "leaf" and len(case) == 2:
        for table in tables:
            leaf = come(dict((name, deed) for name, _, deed in table.told()[6])[kind], chosen, known)
            if leaf is None or not just(case[1], effect(table, chosen, known, leaf)):
                return False
        return True
    if case[0] != "test" or len(case) != 4:
        return False
    tests = [(sort, number) for sort in ("place", "top") for number in range(len(tables[0].places))]
    tests += [("mark", number) for number in range(len(tables[0].marks))]
    if not any(just(case[1], test) for test in tests) or decides(known, case[1]) is not None:
        return False
    return all(case_good(tables, kind, chosen, known + ((case[1], truth),), arm) for truth, arm in zip((True, False), case[2:]))


def choices(table):
    """All (kind, chosen), in their order."""
    told = []
    for kind, fields, _ in table.told()[6]:
        chosen = [()]
        for _, sort in fields:
            many = {"place": range(len(table.places)), "mark": range(len(table.marks))}.get(sort, [None])
            chosen = [ahead + (one,) for ahead in chosen for one in many]
        told += [(kind, one) for one in chosen]
    return told


def paper_good(one, other, paper):
    wanted = choices(one)
    return type(paper) is list and len(paper) == len(wanted) and all(
        type(entry) is tuple and len(entry) == 3 and just(entry[:2], pair) and case_good((one, other), *pair, (), entry[2])
        for entry, pair in zip(paper, wanted))
