"""The way to places, marks and cells, as a row goes it."""

from rowsbeneath.sums import truth_of


class Way:
    """How a row with these operands comes to the places, the marks and the cells of a state."""

    def __init__(self, table, state, operands):
        self.table = table
        self.state = state
        self.operands = operands

    def number_told(self, sel):
        """The number of the place or mark that a sel tells."""
        return sel[1] if sel[0] == "is" else self.operands[sel[1]]

    def place_word(self, sel):
        """The word of a place."""
        return self.state.places[self.number_told(sel)]

    def mark_bit(self, sel):
        """The 0 or 1 of a mark."""
        return self.state.marks[self.number_told(sel)]

    def cell_word(self, address):
        """The word of the cell of an address."""
        return self.state.cells[address % self.table.cells]

    def give_place(self, sel, word):
        """Gives a place a word."""
        self.state.places[self.number_told(sel)] = word

    def give_mark(self, sel, word):
        """Gives a mark the truth of a word."""
        self.state.marks[self.number_told(sel)] = truth_of(word)

    def give_cell(self, address, word):
        """Gives the cell of an address a word."""
        self.state.cells[address % self.table.cells] = word
