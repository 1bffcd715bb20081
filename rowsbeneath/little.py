"""Little rows: steps of one beat, and how it goes on; and a row that is done by them."""

from rowsbeneath.above import end_given, need_single
from rowsbeneath.errors import BadStep
from rowsbeneath.stepforms import is_little
from rowsbeneath.steps import step_of
from rowsbeneath.sums import is_word, top_of
from rowsbeneath.way import Way


class Little:
    """A little row; it never changes."""

    def __init__(self, steps, on):
        self.steps = tuple(steps)
        self.on = on

    def told(self):
        """The little row's tuple."""
        return (tuple([step.told() for step in self.steps]), self.on)

    def words(self):
        """The little row's text."""
        steps = " , ".join([step.words() for step in self.steps])
        return f"{steps} : {on_words(self.on)}" if self.steps else f": {on_words(self.on)}"


def on_words(on):
    """The text of how a little row goes on."""
    if on[0] == "on":
        return f"on {on[1]}"
    if on[0] == "done":
        return f"done {end_words(on[1])}"
    return f"{on[0]} r{on[1]} {on[2]} {on[3]}"


def end_words(end):
    """The text of an end."""
    if end[0] in ("go", "call"):
        return f"{end[0]} f{end[1]}"
    return " ".join(end)


def little_of(told):
    """The Little of a tuple, of any thing."""
    if not is_little(told):
        raise BadStep(told)
    return Little([step_of(step) for step in told[0]], told[1])


def fits(table, kind, many, little):
    """Whether a little row may be done for rows of a kind, with so many inner places."""
    fields = table.fields_of(kind)
    steps = [step_fits(table, fields, many, step) for step in little.steps]
    return all(steps) and on_fits(fields, many, little.on)


def step_fits(table, fields, many, step):
    """Whether all parts of a step are there."""
    targets = [r < many for r in step.targets()]
    sels = [sel_fits(table, fields, sort, sel) for sort, sel in step.selects()]
    sources = [source_fits(table, fields, many, source) for source in step.sources()]
    return all(targets + sels + sources)


def sel_fits(table, fields, sort, sel):
    """Whether a place or a mark is there."""
    if sel[0] == "by":
        return has_field(fields, sel[1], sort)
    names = table.places if sort == "place" else table.marks
    return sel[1] < len(names)


def source_fits(table, fields, many, source):
    """Whether a source is there."""
    if source[0] == "in":
        return source[1] < many
    if source[0] == "field":
        return has_field(fields, source[1], "number")
    return is_word(source[1], table.width)


def has_field(fields, j, sort):
    """Whether there is a field j, and of this sort."""
    return j < len(fields) and fields[j][1] == sort


def on_fits(fields, many, on):
    """Whether that by which a little row goes on is there."""
    if on[0] in ("some", "top"):
        return on[1] < many
    if on[0] == "done" and on[1][0] in ("go", "call"):
        return has_field(fields, on[1][1], "row")
    return True


def beat_done(way, inner, little):
    """Does all steps of a little row in one beat."""
    taken = [step.drawn(way, inner) for step in little.steps]
    for step, word in zip(little.steps, taken):
        step.leave(way, inner, word)


def address_behind(way, inner, on):
    """The address at which it goes on, where the row is not done."""
    if on[0] == "on":
        return on[1]
    word = inner[on[1]]
    told = word != 0 if on[0] == "some" else top_of(word, way.table.width) == 1
    return on[2] if told else on[3]


def row_beneath(table, room, many, entry, state, row, most, inner=None):
    """The state behind a row that is done by the room from an entry on, and its beats, or None."""
    need_single(table, state, row)
    kind, operands = row
    behind = state.copied()
    way = Way(table, behind, operands)
    words = [0] * many if inner is None else list(inner)
    address = entry
    for beats_ahead in range(most):
        little = room[address] if address < len(room) else None
        if little is None or not fits(table, kind, many, little):
            return None
        beat_done(way, words, little)
        if little.on[0] == "done":
            end_given(table, behind, little.on[1], operands)
            return (behind, beats_ahead + 1)
        address = address_behind(way, words, little.on)
    return None
