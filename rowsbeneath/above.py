"""States, rows done on them, and the machine above."""

from rowsbeneath.deeds import give_sets, leaf_of
from rowsbeneath.errors import NoBudget, NoRow, NoState, Unlike
from rowsbeneath.programs import is_row, same_shape
from rowsbeneath.sums import is_within
from rowsbeneath.way import Way

HIGHEST_ROW = 999
MOST_AT_ONCE = 2000


class State:
    """Where a machine stands."""

    def __init__(self, at, places, marks, cells, pile):
        self.at = at
        self.places = list(places)
        self.marks = list(marks)
        self.cells = list(cells)
        self.pile = list(pile)
        self.word = "on"
        self.fault = None

    def told(self):
        """All of it, as a tuple."""
        lists = (tuple(self.places), tuple(self.marks), tuple(self.cells), tuple(self.pile))
        return (self.word, self.fault, self.at) + lists

    def copied(self):
        """Another state, alike in all."""
        other = State(self.at, self.places, self.marks, self.cells, self.pile)
        other.word = self.word
        other.fault = self.fault
        return other

    def end_with(self, word, fault):
        """Ends the run where it stands."""
        self.word = word
        self.fault = fault

    def lay_on_pile(self, number, depth):
        """Lays a row's number on the pile; where that is full the run ends. Whether it was laid."""
        if len(self.pile) >= depth:
            self.end_with("fault", "deep")
            return False
        self.pile.append(number)
        return True


def state_of(table, at=0, places=None, marks=None, cells=None, pile=None):
    """A State for the table, of any things."""
    if not is_within(at, 0, HIGHEST_ROW):
        raise NoState(at)
    places = [0] * len(table.places) if places is None else places
    if not is_list_of(places, len(table.places), highest_word(table)):
        raise NoState(places)
    marks = [0] * len(table.marks) if marks is None else marks
    if not is_list_of(marks, len(table.marks), 1):
        raise NoState(marks)
    cells = [0] * table.cells if cells is None else cells
    if not is_list_of(cells, table.cells, highest_word(table)):
        raise NoState(cells)
    pile = [] if pile is None else pile
    if not is_list_to(pile, table.depth, HIGHEST_ROW):
        raise NoState(pile)
    return State(at, places, marks, cells, pile)


def highest_word(table):
    """The greatest word of the table's width."""
    return (1 << table.width) - 1


def is_list_of(thing, many, high):
    """Whether the thing is a list of just so many whole numbers from 0 to high."""
    return is_list_to(thing, many, high) and len(thing) == many


def is_list_to(thing, many, high):
    """Whether the thing is a list of at most so many whole numbers from 0 to high."""
    if not isinstance(thing, list) or len(thing) > many:
        return False
    return all([is_within(number, 0, high) for number in thing])


def need_row(table, row):
    """Refuses what is no row that may be done alone."""
    if not is_row(table, row, HIGHEST_ROW):
        raise NoRow(row)


def need_single(table, state, row):
    """Refuses what is no row, and a state that is not on."""
    need_row(table, row)
    if state.word != "on":
        raise NoState(state)


def row_done(table, state, row):
    """The state behind a row, a new one."""
    need_single(table, state, row)
    behind = state.copied()
    end = row_given(table, behind, row)
    end_given(table, behind, end, row[1])
    return behind


def row_given(table, state, row):
    """Does a row in this very state, but its end, and tells the end."""
    kind, operands = row
    way = Way(table, state, operands)
    leaf = leaf_of(way, table.deed(kind))
    give_sets(way, leaf[1])
    return leaf[2]


def end_given(table, state, end, operands):
    """Does an end in this very state, with a row's operands."""
    word = end[0]
    if word == "next":
        state.at += 1
    elif word == "go":
        state.at = operands[end[1]]
    elif word == "call":
        if state.lay_on_pile(state.at + 1, table.depth):
            state.at = operands[end[1]]
    elif word == "back":
        go_back(state)
    else:
        state.end_with(word, end[1] if word == "fault" else None)


def go_back(state):
    """Goes to the row that lies on top of the pile."""
    if state.pile:
        state.at = state.pile.pop()
    else:
        state.end_with("fault", "bare")


class Runner:
    """What both machines have in common: a table, a program, a state, the bell, and what is counted."""

    def __init__(self, table, program, cells=None):
        self.table = table
        self.program = program
        self.state = first_state(table, cells)
        self.waiting = False
        self.rows_done = 0
        self.noted = []

    def ring(self):
        """Rings the bell."""
        if self.program.bell is not None:
            self.waiting = True

    def seen(self):
        """What is seen of the machine, as a tuple."""
        return self.state.told() + (self.rows_done, tuple(self.noted))

    def gate_is_open(self):
        """Whether a bell may be taken."""
        gate = self.table.gate
        return gate is None or self.state.marks[self.table.marks.index(gate)] == 0

    def take_bell(self):
        """Takes the bell that waits."""
        self.waiting = False
        self.noted.append(self.rows_done)
        if self.state.lay_on_pile(self.state.at, self.table.depth):
            self.state.at = self.program.bell

    def between(self):
        """Does what is done ahead of a row; whether the word is still on behind it."""
        if self.state.word == "on" and self.waiting and self.gate_is_open():
            self.take_bell()
        if self.state.word == "on" and self.state.at == len(self.program.rows):
            self.state.end_with("end", None)
        return self.state.word == "on"

    def row_left(self, end, operands):
        """Does a row's end, and counts the row."""
        end_given(self.table, self.state, end, operands)
        self.rows_done += 1

    def need_shape(self, table):
        """Refuses a table of another shape."""
        if not same_shape(self.table, table):
            raise Unlike("shape")


def first_state(table, cells):
    """The state in which a machine begins, of any thing as cells."""
    told = [] if cells is None else cells
    if not is_list_to(told, table.cells, highest_word(table)):
        raise NoState(cells)
    return state_of(table, cells=told + [0] * (table.cells - len(told)))


class Above(Runner):
    """The machine above: it does whole rows, as the deeds of its table tell."""

    def one_row(self):
        """Asks for one row; whether one was done."""
        if not self.between():
            return False
        row = self.program.rows[self.state.at]
        end = row_given(self.table, self.state, row)
        self.row_left(end, row[1])
        return True

    def run(self, rows, bells=None):
        """Asks for so many rows, of any thing, and rings at the told numbers; how many were done."""
        if not is_within(rows, 0, MOST_AT_ONCE):
            raise NoBudget(rows)
        rung = [] if bells is None else bells
        many = 0
        while many < rows:
            if self.rows_done in rung:
                self.ring()
            if not self.one_row():
                # A run that has ended stays so: what would still be asked for is not done either.
                return many
            many += 1
        return many

    def change(self, table):
        """Goes on by another table."""
        self.need_shape(table)
        self.table = table
