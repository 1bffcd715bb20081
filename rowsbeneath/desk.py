"""A desk that is told lines, one at a time, and answers each with a text."""

from rowsbeneath.above import MOST_AT_ONCE, Above
from rowsbeneath.alike import alike
from rowsbeneath.beneath import Beneath
from rowsbeneath.changes import changed
from rowsbeneath.desklines import line_read, need_of
from rowsbeneath.errors import NoLine, Within
from rowsbeneath.laying import made_of
from rowsbeneath.papers import paper_of
from rowsbeneath.programs import read_program
from rowsbeneath.spans import span_of
from rowsbeneath.tabletext import read_table, show_table


def say_table(desk, parts):
    """Takes another table."""
    table = read_table(parts[0])
    desk.table = table
    desk.made = None
    desk.machine = None
    return "ok"


def say_make(desk, parts):
    """Makes a room of the table."""
    made = made_of(desk.table, parts[0], parts[1])
    desk.made = made
    desk.machine = None
    return str(made.used())


def say_program(desk, parts):
    """Begins a run of another program."""
    program = read_program(desk.table, parts[0].replace(" / ", "\n"))
    desk.begin_run(program, [])
    return str(len(program.rows))


def say_begin(desk, parts):
    """Begins the run anew, with these cells."""
    desk.begin_run(desk.machine.program, parts[0])
    return "ok"


def say_ring(desk, parts):
    """Rings the machine."""
    desk.machine.ring()
    return "ok"


def say_run(desk, parts):
    """Asks the machine for beats."""
    return str(desk.machine.run(parts[0]))


def say_change(desk, parts):
    """Changes a kind of the room; a run goes on with it."""
    machine = desk.machine
    if machine is not None and machine.within():
        raise Within()
    made = changed(desk.made, read_table(parts[1]), parts[0])
    if machine is not None:
        machine.change(made)
    desk.made = made
    desk.table = made.table
    return str(made.used())


def say_show(desk, parts):
    """The table's text, on one line."""
    return show_table(desk.table).replace("\n", " ")


def say_now(desk, parts):
    """What is seen of the machine beneath."""
    words = seen_words(desk.machine.seen())
    return f"{words} within" if desk.machine.within() else words


def say_above(desk, parts):
    """What is seen of a machine above, behind as many rows and with the same bells."""
    seen = desk.machine.seen()
    rows, bells = seen[7:]
    machine = Above(desk.table, desk.machine.program, desk.first_cells)
    while rows > 0:
        machine.run(min(rows, MOST_AT_ONCE), list(bells))
        rows -= MOST_AT_ONCE
    return seen_words(machine.seen())


def say_little(desk, parts):
    """The text of a little row."""
    laid = desk.made.rows_laid()
    little = laid[parts[0]] if parts[0] < len(laid) else None
    return "-" if little is None else little.words()


def say_entry(desk, parts):
    """A kind's entry."""
    return str(desk.made.entry(parts[0]))


def say_paper(desk, parts):
    """How long a kind's paper is."""
    return str(len(paper_of(desk.made, parts[0])))


def say_span(desk, parts):
    """The span of a row."""
    least, most, low, high = span_of(desk.made, (parts[0], tuple(parts[1])))
    return told_words([least, most, "low"] + list(low[0] + low[1]) + ["high"] + list(high[0] + high[1]))


def say_alike(desk, parts):
    """How the table stands beside another one."""
    told = alike(desk.table, read_table(parts[0]))
    if told[0] == "alike":
        return "alike"
    kind, operands = told[1]
    return told_words(["parted", kind] + list(operands))


def told_words(things):
    """Texts and numbers with a blank between any two."""
    return " ".join([str(thing) for thing in things])


def seen_words(seen):
    """What is seen of a machine, as words."""
    word, fault, at, places, marks, cells, pile, rows, bells = seen
    words = [word] if fault is None else [word, fault]
    words += ["at", at, "places"] + list(places) + ["marks"] + list(marks) + ["cells"] + list(cells)
    words += ["pile"] + list(pile) + ["rows", rows, "bells"] + list(bells)
    return told_words(words)


DEEDS = {
    "table": say_table, "make": say_make, "program": say_program, "begin": say_begin, "ring": say_ring,
    "run": say_run, "change": say_change, "show": say_show, "now": say_now, "above": say_above,
    "little": say_little, "entry": say_entry, "paper": say_paper, "span": say_span, "alike": say_alike,
}


class Desk:
    """A desk. It has a table, a made room and a running machine, each None where there is none."""

    def __init__(self):
        self.table = None
        self.made = None
        self.machine = None
        self.first_cells = []

    def begin_run(self, program, cells):
        """Lets a machine begin."""
        self.machine = Beneath(self.made, program, cells)
        self.first_cells = cells

    def has_what(self, need):
        """Whether the desk has what a line needs."""
        if need == "table":
            return self.table is not None
        if need == "room":
            return self.made is not None
        return need == "nothing" or self.machine is not None

    def say(self, line):
        """Answers a line, of any thing."""
        told = line_read(line)
        if told is None or not self.has_what(need_of(told[0])):
            raise NoLine()
        deed = DEEDS[told[0]]
        return deed(self, told[1])
