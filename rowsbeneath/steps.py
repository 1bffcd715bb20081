"""Steps: what the machine beneath does within a beat.

A step is done in two halves, since all steps of a beat read ahead of all that they write: drawn tells
what it takes, as that stands, and leave gives what it makes of that. Both go by the way of a row
and by the list of the inner places' words.
"""

from rowsbeneath.errors import BadStep
from rowsbeneath.stepforms import is_step
from rowsbeneath.sums import reckoned


class Step:
    """What all steps have in common: this one has no sources, no sel and no target, and uses the way."""

    def uses_way(self):
        """Whether it goes to places, marks or cells."""
        return True

    def sources(self):
        """Its sources, in their order."""
        return []

    def selects(self):
        """Its sels, as tuples (place or mark, sel)."""
        return []

    def targets(self):
        """The numbers of the inner places that it changes."""
        return []

    def reads(self):
        """What it reads, rising, as texts."""
        return self.touched([source[1] for source in self.sources() if source[0] == "in"])

    def writes(self):
        """What it writes, rising, as texts."""
        return self.touched(self.targets())

    def touched(self, inner):
        """The texts of these inner places, rising, and of the way where it is used."""
        names = [f"r{r}" for r in sorted(set(inner))]
        return names + ["way"] if self.uses_way() else names

    def leave(self, way, inner, taken):
        """Lays what was drawn in the inner places that it changes."""
        for r in self.targets():
            inner[r] = taken


class Get(Step):
    """An inner place becomes the word of a place."""

    def __init__(self, to, sel):
        self.to = to
        self.sel = sel

    def told(self):
        """The step's tuple."""
        return ("get", self.to, self.sel)

    def words(self):
        """The step's text."""
        return f"get r{self.to} {place_words(self.sel)}"

    def selects(self):
        """Its one place."""
        return [("place", self.sel)]

    def targets(self):
        """Its one inner place."""
        return [self.to]

    def drawn(self, way, inner):
        """The place's word."""
        return way.place_word(self.sel)


class Ask(Step):
    """An inner place becomes the 0 or 1 of a mark."""

    def __init__(self, to, sel):
        self.to = to
        self.sel = sel

    def told(self):
        """The step's tuple."""
        return ("ask", self.to, self.sel)

    def words(self):
        """The step's text."""
        return f"ask r{self.to} {mark_words(self.sel)}"

    def selects(self):
        """Its one mark."""
        return [("mark", self.sel)]

    def targets(self):
        """Its one inner place."""
        return [self.to]

    def drawn(self, way, inner):
        """The mark's 0 or 1."""
        return way.mark_bit(self.sel)


class Cell(Step):
    """An inner place becomes the word of a cell."""

    def __init__(self, to, source):
        self.to = to
        self.source = source

    def told(self):
        """The step's tuple."""
        return ("cell", self.to, self.source)

    def words(self):
        """The step's text."""
        return f"cell r{self.to} {source_words(self.source)}"

    def sources(self):
        """The address."""
        return [self.source]

    def targets(self):
        """Its one inner place."""
        return [self.to]

    def drawn(self, way, inner):
        """The cell's word."""
        return way.cell_word(source_word(way, inner, self.source))


class Two(Step):
    """An inner place becomes what an operation makes of two words."""

    def __init__(self, to, op, one, other):
        self.to = to
        self.op = op
        self.one = one
        self.other = other

    def told(self):
        """The step's tuple."""
        return ("two", self.to, self.op, self.one, self.other)

    def words(self):
        """The step's text."""
        return f"two r{self.to} {self.op} {source_words(self.one)} {source_words(self.other)}"

    def uses_way(self):
        """It alone stays with the inner places."""
        return False

    def sources(self):
        """Both words."""
        return [self.one, self.other]

    def targets(self):
        """Its one inner place."""
        return [self.to]

    def drawn(self, way, inner):
        """What the operation makes."""
        one = source_word(way, inner, self.one)
        return reckoned(self.op, one, source_word(way, inner, self.other), way.table.width)


class Put(Step):
    """A place becomes a word."""

    def __init__(self, sel, source):
        self.sel = sel
        self.source = source

    def told(self):
        """The step's tuple."""
        return ("put", self.sel, self.source)

    def words(self):
        """The step's text."""
        return f"put {place_words(self.sel)} {source_words(self.source)}"

    def selects(self):
        """Its one place."""
        return [("place", self.sel)]

    def sources(self):
        """The word."""
        return [self.source]

    def drawn(self, way, inner):
        """The word."""
        return source_word(way, inner, self.source)

    def leave(self, way, inner, taken):
        """Gives the place the word."""
        way.give_place(self.sel, taken)


class Tell(Step):
    """A mark becomes the truth of a word."""

    def __init__(self, sel, source):
        self.sel = sel
        self.source = source

    def told(self):
        """The step's tuple."""
        return ("tell", self.sel, self.source)

    def words(self):
        """The step's text."""
        return f"tell {mark_words(self.sel)} {source_words(self.source)}"

    def selects(self):
        """Its one mark."""
        return [("mark", self.sel)]

    def sources(self):
        """The word."""
        return [self.source]

    def drawn(self, way, inner):
        """The word."""
        return source_word(way, inner, self.source)

    def leave(self, way, inner, taken):
        """Gives the mark the word's truth."""
        way.give_mark(self.sel, taken)


class Store(Step):
    """A cell becomes a word."""

    def __init__(self, at, source):
        self.at = at
        self.source = source

    def told(self):
        """The step's tuple."""
        return ("store", self.at, self.source)

    def words(self):
        """The step's text."""
        return f"store {source_words(self.at)} {source_words(self.source)}"

    def sources(self):
        """The address and the word."""
        return [self.at, self.source]

    def drawn(self, way, inner):
        """The address and the word."""
        return (source_word(way, inner, self.at), source_word(way, inner, self.source))

    def leave(self, way, inner, taken):
        """Gives the cell of the address the word."""
        way.give_cell(taken[0], taken[1])


def source_word(way, inner, source):
    """The word that a source tells."""
    if source[0] == "in":
        return inner[source[1]]
    return way.operands[source[1]] if source[0] == "field" else source[1]


def source_words(source):
    """The text of a source."""
    if source[0] == "in":
        return f"r{source[1]}"
    return f"f{source[1]}" if source[0] == "field" else str(source[1])


def place_words(sel):
    """The text of a sel that tells a place."""
    return f"p{sel[1]}" if sel[0] == "is" else f"f{sel[1]}"


def mark_words(sel):
    """The text of a sel that tells a mark."""
    return f"m{sel[1]}" if sel[0] == "is" else f"f{sel[1]}"


def step_of(told):
    """The Step of a tuple, of any thing."""
    if not is_step(told):
        raise BadStep(told)
    if told[0] == "get":
        return Get(told[1], told[2])
    if told[0] == "ask":
        return Ask(told[1], told[2])
    if told[0] == "cell":
        return Cell(told[1], told[2])
    if told[0] == "two":
        return Two(told[1], told[2], told[3], told[4])
    if told[0] == "put":
        return Put(told[1], told[2])
    if told[0] == "tell":
        return Tell(told[1], told[2])
    return Store(told[1], told[2])
