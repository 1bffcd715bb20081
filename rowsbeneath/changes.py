"""One kind of a made room changed, and the holes of a room."""

from rowsbeneath.errors import NoChange, Unlike
from rowsbeneath.laying import Laying, Made, kind_laid
from rowsbeneath.programs import same_shape


def changed(made, table, kind):
    """The Made in which the kind, any thing, does what the table tells."""
    need_change(made, table, kind)
    laying = Laying(made.many, made.size)
    laid = made.rows_laid()
    for other in others(table, kind):
        for address in made.addresses(other):
            laying.keep(laid[address], address)
    entry = kind_laid(laying, kind, table.deed(kind))
    entries = [entry if other == kind else made.entry(other) for other in table.kinds]
    return Made(table, made.many, made.size, laying.laid, entries)


def others(table, kind):
    """All kinds but this one, in the table's order."""
    return [other for other in table.kinds if other != kind]


def need_change(made, table, kind):
    """Refuses what is no kind, a table of another shape, and one in which another kind does otherwise."""
    made.table.kind_at(kind)
    if not same_shape(made.table, table):
        raise Unlike("shape")
    for other in others(table, kind):
        if made.table.deed(other) != table.deed(other):
            raise NoChange(other)


def holes(made):
    """The addresses at which no little row lies."""
    return [address for address, little in enumerate(made.rows_laid()) if little is None]
