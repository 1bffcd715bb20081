"""Deeds: their leaves, and what they do by the way of a row, tests, expressions and sets."""

from rowsbeneath.sums import reckoned, top_of


def leaves_of(deed):
    """The leaves of a deed, in reading order."""
    return [deed] if deed[0] == "leaf" else leaves_of(deed[2]) + leaves_of(deed[3])


def leaf_of(way, deed):
    """The leaf to which the tests of a deed lead."""
    while deed[0] == "if":
        deed = deed[2] if holds(way, deed[1]) else deed[3]
    return deed


def holds(way, test):
    """Whether a test holds."""
    sort, sel = test
    if sort == "place":
        return way.place_word(sel) != 0
    if sort == "mark":
        return way.mark_bit(sel) == 1
    return top_of(way.place_word(sel), way.table.width) == 1


def word_of(way, e):
    """The word that an expression is."""
    if e[0] == "number":
        return e[1]
    if e[0] == "field":
        return way.operands[e[1]]
    if e[0] == "place":
        return way.place_word(e[1])
    if e[0] == "mark":
        return way.mark_bit(e[1])
    if e[0] == "cell":
        return way.cell_word(word_of(way, e[1]))
    return reckoned(e[0], word_of(way, e[1]), word_of(way, e[2]), way.table.width)


def give_sets(way, sets):
    """Gives what the sets tell, in their order."""
    # All of them are reckoned ahead of the first one that is given: none sees what another one gives.
    reckonings = [set_reckoned(way, given) for given in sets]
    for sort, target, word in reckonings:
        if sort == "place":
            way.give_place(target, word)
        elif sort == "mark":
            way.give_mark(target, word)
        else:
            way.give_cell(target, word)


def set_reckoned(way, given):
    """A set with words in the place of its expressions."""
    sort, target, e = given
    if sort == "cell":
        return (sort, word_of(way, target), word_of(way, e))
    return (sort, target, word_of(way, e))
