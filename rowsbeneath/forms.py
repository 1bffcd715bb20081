"""Plain kinds: the forms of their sums, and the effects of their leaves.

Chosen tells for each field of a row the number of its place or mark, or None; known is a tuple of pairs
(test, truth), each test with a number in the place of its sel.
"""

from rowsbeneath.deeds import leaves_of
from rowsbeneath.sums import rest_of, truth_of

ADDRESSES = ("number", "field", "place")
SINGLES = ("number", "field", "place", "mark")
NOTHING = (0, ())
# Where there is no pile, these ends always do the same.
ENDS_WITHOUT_PILE = {"call": ("fault", "deep"), "back": ("fault", "bare")}


def is_plain(table, kind):
    """Whether a kind is plain."""
    return all([is_plain_set(given) for leaf in leaves_of(table.deed(kind)) for given in leaf[1]])


def is_plain_set(given):
    """Whether a set may stand in a plain kind."""
    sort, target, e = given
    if sort == "mark":
        return e[0] in SINGLES
    return is_sum(e) and (sort == "place" or target[0] in ADDRESSES)


def is_sum(e):
    """Whether an expression is a sum."""
    if e[0] in ("+", "-"):
        return is_sum(e[1]) and is_sum(e[2])
    if e[0] == "<<":
        return is_sum(e[1]) and e[2][0] == "number"
    return e[1][0] in ADDRESSES if e[0] == "cell" else e[0] in SINGLES


def chosen_of(table, kind):
    """All choices of places and marks for the fields of a kind, as tuples."""
    told = [()]
    for name, sort in table.fields_of(kind):
        told = [ahead + (number,) for ahead in told for number in numbers_for(table, sort)]
    return told


def numbers_for(table, sort):
    """What may be chosen for a field of the sort."""
    if sort == "place":
        return list(range(len(table.places)))
    return list(range(len(table.marks))) if sort == "mark" else [None]


def selected(chosen, sel):
    """The number of the place or mark that a sel tells."""
    return sel[1] if sel[0] == "is" else chosen[sel[1]]


def decided(known, test):
    """Whether a test holds, by what is known, or None where that does not tell it."""
    truths = dict(known)
    if test in truths:
        return truths[test]
    sort, number = test
    if sort == "place" and truths.get(("top", number)) is True:
        return True
    if sort == "top" and truths.get(("place", number)) is False:
        return False
    return None


def form_of(table, chosen, known, e):
    """The form of a sum: a number, and atoms with their times."""
    if e[0] in ("+", "-"):
        one = form_of(table, chosen, known, e[1])
        return with_times(one, form_of(table, chosen, known, e[2]), 1 if e[0] == "+" else -1, table.width)
    if e[0] == "<<":
        return with_times(NOTHING, form_of(table, chosen, known, e[1]), 1 << (e[2][1] % table.width), table.width)
    atom = atom_of(table, chosen, known, e)
    return (atom[1], ()) if atom[0] == "number" else (0, ((atom, 1),))


def with_times(one, other, times, width):
    """One form, with another one so many times besides."""
    parts = dict(one[1])
    for atom, many in other[1]:
        parts[atom] = parts.get(atom, 0) + times * many
    rests = [(atom, rest_of(parts[atom], width)) for atom in sorted(parts)]
    return (rest_of(one[0] + times * other[0], width), tuple([part for part in rests if part[1] != 0]))


def atom_of(table, chosen, known, e):
    """What a sum of one part stands for: an atom, or a number where that is decided."""
    if e[0] in ("number", "field"):
        return e
    if e[0] == "cell":
        return ("cell", address_told(table, chosen, known, e[1]))
    atom = (e[0], selected(chosen, e[1]))
    truth = decided(known, atom)
    if truth is False:
        return ("number", 0)
    return ("number", 1) if truth is True and e[0] == "mark" else atom


def address_told(table, chosen, known, e):
    """What a plain address stands for, a number being that of its cell."""
    atom = atom_of(table, chosen, known, e)
    return ("number", atom[1] % table.cells) if atom[0] == "number" else atom


def effect_of(table, chosen, known, leaf):
    """What a leaf of a plain kind does: its end, and what places, marks and a cell become."""
    sets, end = leaf[1:]
    if table.depth == 0 and end[0] in ENDS_WITHOUT_PILE:
        end = ENDS_WITHOUT_PILE[end[0]]
    places = [last_given(chosen, sets, "place", number) for number in range(len(table.places))]
    marks = [last_given(chosen, sets, "mark", number) for number in range(len(table.marks))]
    forms = tuple([form_of(table, chosen, known, e) for e in places])
    bits = tuple([bit_of(table, chosen, known, e) for e in marks])
    return (end, forms, bits, cell_given(table, chosen, known, sets))


def last_given(chosen, sets, sort, number):
    """What a place or mark becomes by the last set that gives it, or what it is where none does."""
    e = (sort, ("is", number))
    for given in sets:
        if given[0] == sort and selected(chosen, given[1]) == number:
            e = given[2]
    return e


def bit_of(table, chosen, known, e):
    """What a mark becomes by a sum of one part."""
    atom = atom_of(table, chosen, known, e)
    if atom[0] == "number":
        return ("number", truth_of(atom[1]))
    return ("number", 1) if atom[0] == "place" and decided(known, atom) is True else atom


def cell_given(table, chosen, known, sets):
    """The address and the form of the cell that is set, or None where none becomes another one."""
    for sort, target, e in sets:
        if sort == "cell":
            address = address_told(table, chosen, known, target)
            form = form_of(table, chosen, known, e)
            return None if form == (0, ((("cell", address), 1),)) else (address, form)
    return None
