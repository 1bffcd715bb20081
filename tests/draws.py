"""Drawn things: tables, rows, states, steps, little rows, sets; all of them from a source of chance handed in."""

from rowsbeneath.above import state_of
from rowsbeneath.errors import RowsError
from rowsbeneath.laying import made_of
from rowsbeneath.programs import program_of
from rowsbeneath.tabletext import read_table

OPS = ("+", "-", "&", "|", "^", "<<", ">>", "<", "=")
SORTS = ("place", "mark", "number", "row")


def some_word(source, width):
    """A word, often one of those at the bounds."""
    high = 2 ** width - 1
    return source.choice([0, 1, high, 2 ** (width - 1), 2 ** (width - 1) - 1, width, source.randint(0, high),
                          source.randint(0, high), source.randint(0, high)])


class TableDrawing:
    """Draws the text of a table; deep tells how deep its expressions may be, choices how deep its choices."""

    def __init__(self, source, deep=4, choices=3, kinds=4):
        self.source, self.deep, self.choices, self.kinds = source, deep, choices, kinds
        self.width = source.choice([4, 5, 8, 16, 24, source.randint(4, 24)])
        self.places = list("abcd")[:source.randint(1, 4)]
        self.marks = list("mno")[:source.randint(0, 3)]
        self.fields = []

    def text(self):
        draw = self.source
        gate = draw.choice([""] + self.marks)
        head = (f"word {self.width} ; cells {draw.randint(4, 12)} ; depth {draw.randint(0, 3)} ; "
                f"places {' '.join(self.places)} ; marks {' '.join(self.marks)} ; gate {gate} ;")
        kinds = [self.kind(name) for name in ["ka", "kb", "kc", "kd", "ke", "kf", "kg", "kh"][:draw.randint(1, self.kinds)]]
        return "\n".join([head] + kinds)

    def kind(self, name):
        draw = self.source
        sorts = [sort for sort in SORTS if sort != "mark" or self.marks]
        self.fields = [(f, draw.choice(sorts)) for f in ["x", "y", "z"][:draw.randint(0, 3)]]
        told = " , ".join(f"{f} {sort}" for f, sort in self.fields)
        return f"kind {name} ( {told} ) {self.body(draw.randint(0, self.choices))}"

    def names(self, *sorts):
        found = (self.places if "place" in sorts else []) + (self.marks if "mark" in sorts else [])
        return found + [f for f, sort in self.fields if sort in sorts]

    def body(self, choices):
        draw = self.source
        if choices and draw.random() < 0.8:
            test = draw.choice(["top " + draw.choice(self.names("place"))] + self.names("place", "mark"))
            return "{ if " + test + f" {self.body(choices - 1)} else {self.body(choices - 1)} " + "}"
        sets = []
        for _ in range(draw.choice([0, 1, 2, 2, 3, 4])):
            cell = draw.random() < 0.3 and not any(told.startswith("set [") for told in sets)
            target = f"[ {self.e(draw.randint(1, self.deep))} ]" if cell else draw.choice(self.names("place", "mark"))
            sets.append(f"set {target} = {self.e(draw.randint(1, self.deep))} ;")
        return "{ " + " ".join(sets + [self.end()]) + " }"

    def end(self):
        draw = self.source
        rows = self.names("row")
        plain = ["next", "next", "next", "back", "stop", "fault odd"]
        return draw.choice(plain + [f"{word} {name}" for word in ("go", "call", "call") for name in rows])

    def e(self, deep):
        draw = self.source
        if deep == 1 or draw.random() < 0.1:
            return draw.choice(self.names("place", "mark", "number") * 2 + [str(some_word(draw, self.width))] * 3)
        if draw.random() < 0.25:
            return f"[ {self.e(deep - 1)} ]"
        return f"( {self.e(deep - 1)} {draw.choice(OPS)} {self.e(draw.randint(1, deep - 1))} )"


class LongDrawing(TableDrawing):
    """Draws the text of a table whose rows seldom end a run."""

    def end(self):
        rows = self.names("row")
        return self.source.choice(["next"] * 12 + ["back", "stop"] + [f"go {name}" for name in rows] * 6 + [f"call {name}" for name in rows])


class PlainDrawing(TableDrawing):
    """Draws the text of a table whose kinds are plain."""

    def body(self, choices):
        draw = self.source
        if choices and draw.random() < 0.7:
            test = draw.choice(["top " + draw.choice(self.names("place"))] + self.names("place", "mark"))
            return "{ if " + test + f" {self.body(choices - 1)} else {self.body(choices - 1)} " + "}"
        sets = []
        for _ in range(draw.choice([0, 1, 1, 2, 3])):
            if draw.random() < 0.4 and not any(told.startswith("set [") for told in sets):
                sets.append(f"set [ {self.single()} ] = {self.sum(3)} ;")
            elif self.names("mark") and draw.random() < 0.5:
                sets.append(f"set {draw.choice(self.names('mark'))} = {self.single('mark')} ;")
            else:
                sets.append(f"set {draw.choice(self.names('place'))} = {self.sum(3)} ;")
        return "{ " + " ".join(sets + [self.end()]) + " }"

    def single(self, *sorts):
        return self.source.choice(self.names("place", "number", *sorts) * 2 + [str(some_word(self.source, self.width))])

    def sum(self, deep):
        draw = self.source
        if deep == 1 or draw.random() < 0.2:
            return self.single("mark") if draw.random() < 0.6 else f"[ {self.single()} ]"
        if draw.random() < 0.2:
            return f"( {self.sum(deep - 1)} << {some_word(draw, self.width)} )"
        return f"( {self.sum(deep - 1)} {draw.choice('+-')} {self.sum(deep - 1)} )"


def with_a_kind_drawn_anew(source, drawing, text, choices=2):
    """(the text of a drawn table with the deed of one kind drawn anew, the name of this kind)."""
    lines = text.split("\n")
    at = source.randrange(1, len(lines))
    head = lines[at][:lines[at].index("{")]
    told = head[head.index("(") + 1:head.index(")")].strip()
    drawing.fields = [tuple(field.split()) for field in told.split(" , ")] if told else []
    lines[at] = head + drawing.body(choices)
    return "\n".join(lines), head.split()[1]


def some_table(source, deep=4, choices=3, kinds=4):
    """A table, of at most as many tokens as may be."""
    text = TableDrawing(source, deep, choices, kinds).text()
    while len(text.split()) > 1500:
        text = TableDrawing(source, deep, choices, kinds).text()
    return read_table(text)


def some_made(source, **bounds):
    """A made room of a drawn table, big enough."""
    while True:
        try:
            return made_of(some_table(source, **bounds), source.randint(2, 8), 400)
        except RowsError:
            continue


def some_row(source, table, rows=999, kind=None):
    """A row for the table, its numbers of rows to rows."""
    kind = source.choice(table.kinds) if kind is None else kind
    operands = []
    for _, sort in table.fields_of(kind):
        if sort in ("place", "mark"):
            operands.append(source.randrange(len(table.places if sort == "place" else table.marks)))
        else:
            operands.append(some_word(source, table.width) if sort == "number" else source.randint(0, rows))
    return (kind, tuple(operands))


def some_state(source, table):
    """A state for the table."""
    words = lambda many: [some_word(source, table.width) for _ in range(many)]
    pile = [source.randint(0, 999) for _ in range(source.choice([0, table.depth, source.randint(0, table.depth)]))]
    return state_of(table, source.randint(0, 999), words(len(table.places)), [source.randint(0, 1) for _ in table.marks],
                    words(table.cells), pile)


def some_program(source, table, most=12):
    """A program for the table, with or without a bell row."""
    many = source.randint(0, most)
    bell = source.choice([None, source.randint(0, many)])
    return program_of(table, [some_row(source, table, many) for _ in range(many)], bell)


def some_sel(source, many=4, fields=3):
    """A sel, to below these numbers; many places are there, and perhaps fields."""
    if fields and source.random() < 0.4:
        return ("by", source.randrange(fields))
    return ("is", source.randrange(many))


def some_source(source, inner=8, fields=3, high=2 ** 24 - 1):
    """A source of a step."""
    sort = source.choice(["in", "in", "in", "number", "field"])
    if sort == "number":
        return ("number", source.choice([0, 1, high, source.randint(0, high)]))
    return ("in", source.randrange(inner)) if sort == "in" or not fields else ("field", source.randrange(fields))


def some_step(source, inner=8):
    """A step's tuple of any sort, with numbers as they may be."""
    sort = source.choice(["get", "ask", "cell", "two", "two", "two", "put", "tell", "store"])
    to = source.randrange(inner)
    if sort in ("get", "ask"):
        return (sort, to, some_sel(source))
    if sort == "cell":
        return (sort, to, some_source(source, inner))
    if sort == "two":
        return (sort, to, source.choice(OPS), some_source(source, inner), some_source(source, inner))
    if sort == "store":
        return (sort, some_source(source, inner), some_source(source, inner))
    return (sort, some_sel(source), some_source(source, inner))


def some_on(source, inner=8, size=400):
    """A way on of any sort."""
    sort = source.choice(["on", "some", "top", "done"])
    if sort == "on":
        return (sort, source.randrange(size))
    if sort == "done":
        return (sort, source.choice([("next",), ("go", source.randrange(3)), ("call", source.randrange(3)), ("back",),
                                     ("stop",), ("fault", "odd")]))
    return (sort, source.randrange(inner), source.randrange(size), source.randrange(size))


def some_e(source, deep):
    """An expression at most so deep, of whatever table."""
    if deep == 1 or source.random() < 0.15:
        sort = source.choice(["number", "field", "place", "place", "mark"])
        if sort == "number":
            return (sort, source.choice([0, 2 ** 24 - 1, source.randrange(2 ** 24)]))
        return (sort, source.randrange(3)) if sort == "field" else (sort, some_sel(source))
    if source.random() < 0.25:
        return ("cell", some_e(source, deep - 1))
    return (source.choice(OPS), some_e(source, deep - 1), some_e(source, deep - 1))


def some_sets(source, deep=4, most=4):
    """Sets of the form of a leaf's, of whatever table."""
    sets = []
    for _ in range(source.randint(0, most)):
        e = some_e(source, source.randint(1, deep))
        if source.random() < 0.3 and all(given[0] != "cell" for given in sets):
            sets.append(("cell", some_e(source, source.randint(1, deep)), e))
        else:
            sets.append((source.choice(["place", "mark"]), some_sel(source), e))
    return tuple(sets)
