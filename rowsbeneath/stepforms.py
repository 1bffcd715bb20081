"""The forms of steps and of little rows as tuples: whether any thing at all is one."""

from rowsbeneath.sums import is_name, is_within, ops_told
from rowsbeneath.tableform import OWN_FAULTS

HIGHEST_INNER = 7
HIGHEST_WORD = (1 << 24) - 1
HIGHEST_FIELD = 2
HIGHEST_SELECTED = 3
HIGHEST_ADDRESS = 399
MOST_STEPS = 16


def is_headed(thing, word, many):
    """Whether the thing is a tuple of so many things, the first of them this word."""
    return isinstance(thing, tuple) and len(thing) == many and thing[0] == word


def is_inner(thing):
    """Whether the thing is the number of an inner place."""
    return is_within(thing, 0, HIGHEST_INNER)


def is_field(thing):
    """Whether the thing is the number of a field."""
    return is_within(thing, 0, HIGHEST_FIELD)


def is_address(thing):
    """Whether the thing is an address of a little row."""
    return is_within(thing, 0, HIGHEST_ADDRESS)


def is_sel(thing):
    """Whether the thing is a sel."""
    if is_headed(thing, "is", 2):
        return is_within(thing[1], 0, HIGHEST_SELECTED)
    return is_headed(thing, "by", 2) and is_field(thing[1])


def is_source(thing):
    """Whether the thing is a source."""
    if is_headed(thing, "in", 2):
        return is_inner(thing[1])
    if is_headed(thing, "number", 2):
        return is_within(thing[1], 0, HIGHEST_WORD)
    return is_headed(thing, "field", 2) and is_field(thing[1])


def is_step(thing):
    """Whether the thing is a step's tuple."""
    if is_headed(thing, "get", 3) or is_headed(thing, "ask", 3):
        return is_inner(thing[1]) and is_sel(thing[2])
    if is_headed(thing, "cell", 3):
        return is_inner(thing[1]) and is_source(thing[2])
    if is_headed(thing, "two", 5):
        return is_inner(thing[1]) and thing[2] in ops_told() and is_source(thing[3]) and is_source(thing[4])
    if is_headed(thing, "put", 3) or is_headed(thing, "tell", 3):
        return is_sel(thing[1]) and is_source(thing[2])
    return is_headed(thing, "store", 3) and is_source(thing[1]) and is_source(thing[2])


def is_end(thing):
    """Whether the thing is an end."""
    if is_headed(thing, "go", 2) or is_headed(thing, "call", 2):
        return is_field(thing[1])
    if is_headed(thing, "fault", 2):
        return is_name(thing[1]) and thing[1] not in OWN_FAULTS
    return is_headed(thing, "next", 1) or is_headed(thing, "back", 1) or is_headed(thing, "stop", 1)


def is_way_on(thing):
    """Whether the thing tells how a little row goes on."""
    if is_headed(thing, "on", 2):
        return is_address(thing[1])
    if is_headed(thing, "some", 4) or is_headed(thing, "top", 4):
        return is_inner(thing[1]) and is_address(thing[2]) and is_address(thing[3])
    return is_headed(thing, "done", 2) and is_end(thing[1])


def is_little(thing):
    """Whether the thing is a little row's tuple."""
    if not isinstance(thing, tuple) or len(thing) != 2:
        return False
    steps, on = thing
    if not isinstance(steps, tuple) or len(steps) > MOST_STEPS:
        return False
    return all([is_step(step) for step in steps]) and is_way_on(on)
