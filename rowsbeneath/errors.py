"""The refusals: each has the very things that it is made of.

Their words never show those things, since of anything at all it is not sure
that it can be shown.
"""


class RowsError(ValueError):
    """Any refusal."""

    def __init__(self, text):
        ValueError.__init__(self, text)


class NoText(RowsError):
    """What is read is no table's text."""

    def __init__(self, place):
        RowsError.__init__(self, "no text of a table")
        self.place = place


class Twice(RowsError):
    """A name is given to a second thing."""

    def __init__(self, name):
        RowsError.__init__(self, "a name that is taken")
        self.name = name


class NoName(RowsError):
    """A name stands for nothing."""

    def __init__(self, name):
        RowsError.__init__(self, "a name of nothing")
        self.name = name


class NoFit(RowsError):
    """A name stands for a thing that does not go there."""

    def __init__(self, name):
        RowsError.__init__(self, "a name that does not go there")
        self.name = name


class BadLine(RowsError):
    """A line of a text is not as it has to be."""

    def __init__(self, line):
        RowsError.__init__(self, "a line that is not as told")
        self.line = line


class NoKind(RowsError):
    """What is asked of is no kind of the table."""

    def __init__(self, name):
        RowsError.__init__(self, "no kind of the table")
        self.name = name


class NoRow(RowsError):
    """What is handed in is no row for the table."""

    def __init__(self, row):
        RowsError.__init__(self, "no row for the table")
        self.row = row


class NoState(RowsError):
    """What is handed in makes no state."""

    def __init__(self, thing):
        RowsError.__init__(self, "nothing of a state")
        self.thing = thing


class BadStep(RowsError):
    """What is handed in is no step, or no little row."""

    def __init__(self, thing):
        RowsError.__init__(self, "no step and no little row")
        self.thing = thing


class NoPlaces(RowsError):
    """There are not so many inner places."""

    def __init__(self, many):
        RowsError.__init__(self, "no number of inner places")
        self.many = many


class NoSize(RowsError):
    """A room has no such size."""

    def __init__(self, thing):
        RowsError.__init__(self, "no size of a room")
        self.thing = thing


class NoRoom(RowsError):
    """The little rows of a kind do not go into the room."""

    def __init__(self, kind, lacking):
        RowsError.__init__(self, "little rows lack in the room")
        self.kind = kind
        self.lacking = lacking


class Crowded(RowsError):
    """A leaf of a kind needs too many inner places."""

    def __init__(self, kind, needed):
        RowsError.__init__(self, "too few inner places")
        self.kind = kind
        self.needed = needed


class NoBudget(RowsError):
    """So many rows or beats are not asked for."""

    def __init__(self, thing):
        RowsError.__init__(self, "no number of rows or beats")
        self.thing = thing


class Within(RowsError):
    """What is asked is not done within a row."""

    def __init__(self):
        RowsError.__init__(self, "a row is begun and not done")


class NoChange(RowsError):
    """A kind is changed that has to stay."""

    def __init__(self, kind):
        RowsError.__init__(self, "a kind that has to stay")
        self.kind = kind


class Unlike(RowsError):
    """Two things are not alike in what the word tells."""

    def __init__(self, word):
        RowsError.__init__(self, "things that are not alike")
        self.word = word


class NotPlain(RowsError):
    """A kind is not plain."""

    def __init__(self, kind):
        RowsError.__init__(self, "a kind that is not plain")
        self.kind = kind


class NoLine(RowsError):
    """What is said is no line of the desk."""

    def __init__(self):
        RowsError.__init__(self, "no line of the desk")
