"""The machine beneath: it does the rows of a program by the little rows of a made room."""

from rowsbeneath.above import MOST_AT_ONCE, Runner
from rowsbeneath.errors import NoBudget, Unlike, Within
from rowsbeneath.little import address_behind, beat_done
from rowsbeneath.sums import is_within
from rowsbeneath.way import Way


class Beneath(Runner):
    """The machine beneath. coming is the address of the little row that comes next, None between two rows."""

    def __init__(self, made, program, cells=None):
        Runner.__init__(self, made.table, program, cells)
        self.made = made
        self.inner = [0] * made.many
        self.coming = None
        self.beats_counted = 0

    def within(self):
        """Whether a row is begun and not done."""
        return self.coming is not None

    def beats_done(self):
        """How many beats were done so far."""
        return self.beats_counted

    def inner_places(self):
        """The words of the inner places."""
        return list(self.inner)

    def beat(self):
        """Asks for one beat; whether one was done."""
        if not self.within() and not self.between():
            return False
        kind, operands = self.program.rows[self.state.at]
        little = self.made.laid[self.coming if self.within() else self.made.entry(kind)]
        way = Way(self.table, self.state, operands)
        beat_done(way, self.inner, little)
        self.beats_counted += 1
        if little.on[0] == "done":
            self.coming = None
            self.row_left(little.on[1], operands)
        else:
            self.coming = address_behind(way, self.inner, little.on)
        return True

    def run(self, beats, rings=None):
        """Asks for so many beats, of any thing, and rings at the told numbers; how many were done."""
        if not is_within(beats, 0, MOST_AT_ONCE):
            raise NoBudget(beats)
        rung = [] if rings is None else rings
        many = 0
        while many < beats:
            if self.beats_counted in rung:
                self.ring()
            if not self.beat():
                # A run that has ended stays so: what would still be asked for is not done either.
                return many
            many += 1
        return many

    def change(self, made):
        """Goes on by another made room."""
        if self.within():
            raise Within()
        self.need_shape(made.table)
        if made.many != self.made.many:
            raise Unlike("places")
        self.table = made.table
        self.made = made
