"""Beats told ahead: the ways of a row, its least and its greatest number of beats, and budgets for programs."""

from rowsbeneath.above import MOST_AT_ONCE, need_row, state_of
from rowsbeneath.deeds import holds
from rowsbeneath.errors import NoBudget
from rowsbeneath.sums import is_within
from rowsbeneath.way import Way


def ways_of(table, row):
    """For each leaf to which some state leads the row its number, and places and marks that lead there."""
    need_row(table, row)
    kind, operands = row
    ways = []
    for number, tests in enumerate(tests_to_leaves(table.deed(kind))):
        state = state_of(table)
        if is_led(Way(table, state, operands), tests):
            ways.append((number, tuple(state.places), tuple(state.marks)))
    return ways


def tests_to_leaves(deed):
    """For each leaf, in reading order, the tests on the way to it, each with whether it must hold."""
    if deed[0] == "leaf":
        return [[]]
    yes = [[(deed[1], True)] + further for further in tests_to_leaves(deed[2])]
    return yes + [[(deed[1], False)] + further for further in tests_to_leaves(deed[3])]


def is_led(way, tests):
    """Gives a state of noughts what lets the tests hold that must; whether then all are as they must be."""
    for test, must in tests:
        if must:
            let_hold(way, test)
    return all([holds(way, test) == must for test, must in tests])


def let_hold(way, test):
    """Gives the place or mark of a test the least that lets it hold, besides what it has already."""
    sort, sel = test
    if sort == "mark":
        way.give_mark(sel, 1)
    else:
        least = 1 << (way.table.width - 1) if sort == "top" else 1
        way.give_place(sel, max(least, way.place_word(sel)))


def span_of(made, row):
    """The least and the greatest number of beats of a row, and places and marks for each."""
    ways = ways_of(made.table, row)
    lengths = made.lengths(row[0])
    beats = [lengths[number] for number, places, marks in ways]
    least = min(beats)
    most = max(beats)
    low = ways[beats.index(least)]
    high = ways[beats.index(most)]
    return (least, most, low[1:], high[1:])


def spans_of(made, program):
    """For each row of a program its least and its greatest number of beats."""
    return [span_of(made, row)[:2] for row in program.rows]


def budget_for(made, program, rows):
    """How many beats are enough for so many rows of a program, of any thing as rows."""
    if not is_within(rows, 0, MOST_AT_ONCE):
        raise NoBudget(rows)
    return rows * max([most for least, most in spans_of(made, program)], default=1)
