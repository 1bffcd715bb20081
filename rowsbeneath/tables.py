"""Tables: what the rows of each kind do."""

from rowsbeneath.errors import NoKind


class Table:
    """What was read of a table's text; read_table alone makes one, and it never changes.

    kinds_known is a tuple of tuples (name, fields, deed), in the order of the kinds.
    """

    def __init__(self, width, cells, depth, places, marks, gate, kinds_known):
        self.width = width
        self.cells = cells
        self.depth = depth
        self.places = places
        self.marks = marks
        self.gate = gate
        self.kinds = tuple([name for name, fields, deed in kinds_known])
        self.kinds_known = kinds_known

    def kind_at(self, kind):
        """The number of a kind, by its name."""
        if kind not in self.kinds:
            raise NoKind(kind)
        return self.kinds.index(kind)

    def fields_of(self, kind):
        """The fields of a kind, as a tuple of tuples (name, sort)."""
        return self.kinds_known[self.kind_at(kind)][1]

    def deed(self, kind):
        """What a row of the kind does, as nested tuples."""
        return self.kinds_known[self.kind_at(kind)][2]

    def told(self):
        """All that the table knows, as a tuple."""
        return (self.width, self.cells, self.depth, self.places, self.marks, self.gate, self.kinds_known)
