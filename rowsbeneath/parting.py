"""A row and a state by which two tables are parted, where the effects of two leaves are unlike.

A thing that is free is told as (sort, number, words): words that the field of this number, or this place or mark,
may be given so that all that is known stays so.
"""

from rowsbeneath.above import row_done, state_of
from rowsbeneath.forms import decided

# Any four words one behind the other are addresses of unlike cells, since there are at least four cells.
WORDS_TRIED = 4
# Unlike numbers, and none of them the row behind the first one: so unlike ends tell unlike states.
FIRST_ROW_TRIED = 10


def parted_by(one, other, kind, chosen, known):
    """A row and a state, led as known tells, behind which the two tables tell unlike states."""
    free = free_things(one, kind, known)
    # Where effects are unlike one of these always parts the tables: picks_of tells why.
    for picks in picks_of(free):
        given = {(sort, number): words[picks.get(at, 0)] for at, (sort, number, words) in enumerate(free)}
        row = (kind, operands_of(one, kind, chosen, given))
        places = [given[("place", number)] for number in range(len(one.places))]
        marks = [given[("mark", number)] for number in range(len(one.marks))]
        for cells in cells_tried(one):
            state = state_of(one, places=places, marks=marks, cells=cells)
            if row_done(one, state, row).told() != row_done(other, state, row).told():
                return (row, state)


def free_things(table, kind, known):
    """All number fields, places and marks, with the words that they may be given."""
    sorts = [sort for name, sort in table.fields_of(kind)]
    told = [("field", j, list(range(WORDS_TRIED))) for j in range(len(sorts)) if sorts[j] == "number"]
    told += [("place", number, place_words(table, known, number)) for number in range(len(table.places))]
    return told + [("mark", number, mark_bits(known, number)) for number in range(len(table.marks))]


def place_words(table, known, number):
    """Words that a place may have by what is known: 0 where it must be, else as many as are tried."""
    truth = decided(known, ("place", number))
    if truth is False:
        return [0]
    least = 0 if truth is None else 1
    if decided(known, ("top", number)) is True:
        least = 1 << (table.width - 1)
    return list(range(least, least + WORDS_TRIED))


def mark_bits(known, number):
    """What a mark may be by what is known."""
    truth = decided(known, ("mark", number))
    return [0, 1] if truth is None else [1 if truth else 0]


def picks_of(free):
    """Which of its words each thing is given: always the first one, but for none, for one or for two of the things.

    These are enough. What a place, a mark or a cell becomes is a number with free things and cells, each so many
    times: two such that are unlike differ where one thing, or one cell, is changed. Where unlike cells are set,
    a second thing may have to be changed first, so that the addresses fall apart.
    """
    singles = [(at, pick) for at, (sort, number, words) in enumerate(free) for pick in range(1, len(words))]
    doubles = [dict([one, other]) for one in singles for other in singles if one[0] < other[0]]
    return [{}] + [dict([one]) for one in singles] + doubles


def operands_of(table, kind, chosen, given):
    """The operands of a row with these places and marks, and these words in its number fields."""
    sorts = [sort for name, sort in table.fields_of(kind)]
    operands = []
    for j, sort in enumerate(sorts):
        if sort == "number":
            operands.append(given[("field", j)])
        else:
            operands.append(FIRST_ROW_TRIED + j if sort == "row" else chosen[j])
    return tuple(operands)


def cells_tried(table):
    """Cells that are all noughts, and such of which one is 1."""
    noughts = [0] * table.cells
    return [noughts] + [noughts[:at] + [1] + noughts[at + 1:] for at in range(table.cells)]
