"""The lines of a desk: their words, and what stands behind them."""

from rowsbeneath.figures import number_of

# For each line what the desk has to have, and the sorts of the parts behind its word.
LINES = {
    "table": ("nothing", ("text",)),
    "make": ("table", ("number", "number")),
    "program": ("room", ("text",)),
    "begin": ("run", ("numbers",)),
    "ring": ("run", ()),
    "run": ("run", ("number",)),
    "change": ("room", ("kind", "text")),
    "show": ("table", ()),
    "now": ("run", ()),
    "above": ("run", ()),
    "little": ("room", ("number",)),
    "entry": ("room", ("kind",)),
    "paper": ("room", ("kind",)),
    "span": ("room", ("kind", "numbers")),
    "alike": ("table", ("text",)),
}


def need_of(word):
    """What the desk has to have for the line of this word."""
    return LINES[word][0]


def line_read(line):
    """The word and the parts of a line, of any thing, or None where it is none."""
    if not isinstance(line, str) or "\n" in line:
        return None
    word = line.split(" ")[0]
    parts = parts_read(LINES[word][1], line[len(word):]) if word in LINES else None
    return None if parts is None else (word, parts)


def parts_read(sorts, rest):
    """The parts of these sorts that stand one behind the other, each with a blank ahead, or None."""
    parts = []
    for sort in sorts:
        part, rest = part_read(sort, rest)
        if part is None:
            return None
        parts.append(part)
    return parts if rest == "" else None


def part_read(sort, rest):
    """The part of this sort that stands first, or None, and what stands behind it."""
    if sort == "numbers":
        return (numbers_read(rest), "")
    if not rest.startswith(" "):
        return (None, rest)
    if sort == "text":
        return (rest[1:], "")
    word = rest[1:].split(" ")[0]
    behind = rest[1 + len(word):]
    if sort == "number":
        return (number_of(word), behind)
    return (word if word else None, behind)


def numbers_read(rest):
    """All numbers that stand there, each with a blank ahead, or None."""
    numbers = [number_of(word) for word in rest.split(" ")[1:]]
    return None if None in numbers else numbers
