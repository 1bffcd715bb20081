"""Rooms of little rows, made of tables."""

from rowsbeneath.deeds import leaves_of
from rowsbeneath.errors import Crowded, NoPlaces, NoRoom, NoSize
from rowsbeneath.leaves import needs_of_sets, steps_of
from rowsbeneath.little import Little
from rowsbeneath.packing import packed
from rowsbeneath.steps import Ask, Get
from rowsbeneath.sums import is_within

LEAST_PLACES = 2
MOST_PLACES = 8
MOST_SIZE = 400


class Laying:
    """A room that is being made, at first empty; it goes on beyond its size where that is too small."""

    def __init__(self, many, size):
        self.many = many
        self.size = size
        self.laid = [None] * size
        self.address_of = {}

    def lay(self, steps, on):
        """Lays a little row, where none alike lies; its address."""
        little = Little(steps, on)
        told = little.told()
        if told not in self.address_of:
            self.address_of[told] = self.put_down(little)
        return self.address_of[told]

    def keep(self, little, address):
        """Lays a little row at its own address, ahead of all that are laid at free ones."""
        self.laid[address] = little
        self.address_of[little.told()] = address

    def put_down(self, little):
        """Lays a little row at the least free address, and tells that."""
        if None not in self.laid:
            self.laid.append(None)
        address = self.laid.index(None)
        self.laid[address] = little
        return address

    def lay_deed(self, deed):
        """Lays a deed; the address to which it comes."""
        if deed[0] == "leaf":
            return self.lay_leaf(deed)
        yes = self.lay_deed(deed[2])
        no = self.lay_deed(deed[3])
        sort, sel = deed[1]
        step = Ask(0, sel) if sort == "mark" else Get(0, sel)
        return self.lay([step], ("top" if sort == "top" else "some", 0, yes, no))

    def lay_leaf(self, leaf):
        """Lays a leaf's beats, the last one first; the address of its first beat."""
        steps = steps_of(leaf[1], self.many)
        on = ("done", leaf[2])
        # A leaf without steps has no beat, but its end is done in one.
        address = None if steps else self.lay([], on)
        for beat in reversed(packed(steps)):
            address = self.lay([steps[number] for number in beat], on)
            on = ("on", address)
        return address


class Made:
    """A made room; made_of and changed alone make one, and it never changes.

    laid has a Little or None for each address, entries the address of each kind, in the table's order.
    """

    def __init__(self, table, many, size, laid, entries):
        self.table = table
        self.many = many
        self.size = size
        self.laid = tuple(laid)
        self.entries = tuple(entries)

    def rows_laid(self):
        """The little rows by their addresses, None where none lies."""
        return list(self.laid)

    def room_told(self):
        """The same as tuples."""
        return [None if little is None else little.told() for little in self.laid]

    def used(self):
        """How many little rows lie there."""
        return len([little for little in self.laid if little is not None])

    def entry(self, kind):
        """The address of a kind's first little row."""
        return self.entries[self.table.kind_at(kind)]

    def addresses(self, kind):
        """The addresses to which a row of the kind can come, rising."""
        found = {}
        waiting = [self.entry(kind)]
        while waiting:
            address = waiting.pop()
            if address not in found:
                found[address] = True
                waiting += addresses_behind(self.laid[address].on)
        return sorted(found)

    def lengths(self, kind):
        """For each leaf of the kind's deed how many little rows are done on the way to its end."""
        return self.lengths_from(self.table.deed(kind), self.entry(kind))

    def lengths_from(self, deed, address):
        """The lengths of a deed's leaves, from the address to which the deed comes."""
        on = self.laid[address].on
        if deed[0] == "if":
            further = self.lengths_from(deed[2], on[2]) + self.lengths_from(deed[3], on[3])
            return [1 + length for length in further]
        length = 1
        while on[0] == "on":
            on = self.laid[on[1]].on
            length += 1
        return [length]


def addresses_behind(on):
    """The addresses at which it may go on."""
    if on[0] == "on":
        return [on[1]]
    return [] if on[0] == "done" else [on[2], on[3]]


def made_of(table, many, size):
    """The Made of a table, so many inner places and a size, of any two things as these."""
    if not is_within(many, LEAST_PLACES, MOST_PLACES):
        raise NoPlaces(many)
    if not is_within(size, 1, MOST_SIZE):
        raise NoSize(size)
    laying = Laying(many, size)
    entries = [kind_laid(laying, kind, table.deed(kind)) for kind in table.kinds]
    return Made(table, many, size, laying.laid, entries)


def kind_laid(laying, kind, deed):
    """Lays the deed of a kind; its entry."""
    need_places(kind, deed, laying.many)
    entry = laying.lay_deed(deed)
    lacking = len(laying.laid) - laying.size
    if lacking > 0:
        raise NoRoom(kind, lacking)
    return entry


def need_places(kind, deed, many):
    """Refuses a kind with a leaf that needs more inner places than there are."""
    for leaf in leaves_of(deed):
        needed = needs_of_sets(leaf[1])
        if needed > many:
            raise Crowded(kind, needed)
