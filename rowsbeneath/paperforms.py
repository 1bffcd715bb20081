"""The form of papers: whether any thing at all is one."""

from rowsbeneath.stepforms import is_address, is_headed, is_inner, is_sel
from rowsbeneath.sums import is_within
from rowsbeneath.terms import MOST_PUTS, is_term

MOST_ENTRIES = 1000


def is_paper(thing):
    """Whether the thing is a list of entries."""
    if not isinstance(thing, list) or not 1 <= len(thing) <= MOST_ENTRIES:
        return False
    return all([is_entry(entry, len(thing)) for entry in thing])


def is_entry(thing, entries):
    """Whether the thing is an entry of a paper with so many entries."""
    if not isinstance(thing, tuple) or len(thing) != 5:
        return False
    address, known, inner, puts, nexts = thing
    if not is_address(address) or not is_known(known) or not is_inner_told(inner):
        return False
    return are_puts(puts) and are_nexts(nexts, entries)


def is_pair(thing):
    """Whether the thing is a tuple of two things."""
    return isinstance(thing, tuple) and len(thing) == 2


def is_known(thing):
    """Whether the thing is a tuple of tests with their truths, none twice."""
    if not isinstance(thing, tuple) or not all([is_known_pair(pair) for pair in thing]):
        return False
    return len(set(thing)) == len(thing)


def is_known_pair(thing):
    """Whether the thing is a test with its truth."""
    return is_pair(thing) and is_test(thing[0]) and (thing[1] is True or thing[1] is False)


def is_test(thing):
    """Whether the thing is a test."""
    return is_pair(thing) and thing[0] in ("place", "mark", "top") and is_sel(thing[1])


def is_inner_told(thing):
    """Whether the thing is a tuple of inner places with their terms, rising."""
    if not isinstance(thing, tuple):
        return False
    if not all([is_pair(pair) and is_inner(pair[0]) and is_term(pair[1]) for pair in thing]):
        return False
    return all([one[0] < other[0] for one, other in zip(thing, thing[1:])])


def are_puts(thing):
    """Whether the thing is a tuple of what was given."""
    return isinstance(thing, tuple) and len(thing) <= MOST_PUTS and all([is_put(put) for put in thing])


def is_put(thing):
    """Whether the thing is a set of terms."""
    if is_headed(thing, "cell", 3):
        return is_term(thing[1]) and is_term(thing[2])
    return (is_headed(thing, "place", 3) or is_headed(thing, "mark", 3)) and is_sel(thing[1]) and is_term(thing[2])


def are_nexts(thing, entries):
    """Whether the thing is a tuple of numbers of entries."""
    return isinstance(thing, tuple) and all([is_within(number, 0, entries - 1) for number in thing])
