"""Whole numbers, words, names, and what is reckoned with words."""

OWN_WORDS = (
    "word", "cells", "depth", "places", "marks", "gate", "kind", "place", "mark", "number", "row",
    "set", "if", "else", "top", "next", "go", "call", "back", "stop", "fault", "bell",
)
LETTERS = "abcdefghijklmnopqrstuvwxyz"
LONGEST_NAME = 8


def is_whole(thing):
    """Whether the thing is a whole number; True and False are none."""
    return isinstance(thing, int) and not isinstance(thing, bool)


def is_within(thing, low, high):
    """Whether the thing is a whole number from low to high."""
    return is_whole(thing) and low <= thing <= high


def is_word(thing, width):
    """Whether the thing is a word of the width."""
    return is_within(thing, 0, (1 << width) - 1)


def own_words():
    """The own words of the language, in their order."""
    return list(OWN_WORDS)


def is_name(thing):
    """Whether the thing is a name."""
    if not isinstance(thing, str) or thing in OWN_WORDS:
        return False
    return 1 <= len(thing) <= LONGEST_NAME and all([sign in LETTERS for sign in thing])


def truth_of(word):
    """0 for the word 0, 1 for each other one."""
    return 0 if word == 0 else 1


def top_of(word, width):
    """The highest bit of a word of the width."""
    return 1 if word >= 1 << (width - 1) else 0


def rest_of(number, width):
    """The word that is left of any whole number."""
    return number % (1 << width)


def added(one, other, width):
    """What + makes."""
    return rest_of(one + other, width)


def taken_away(one, other, width):
    """What - makes."""
    return rest_of(one - other, width)


def bits_of_both(one, other, width):
    """What & makes."""
    return one & other


def bits_of_any(one, other, width):
    """What | makes."""
    return one | other


def bits_of_just_one(one, other, width):
    """What ^ makes."""
    return one ^ other


def doubled(one, other, width):
    """What << makes."""
    return rest_of(one << (other % width), width)


def halved(one, other, width):
    """What >> makes."""
    return one >> (other % width)


def is_less(one, other, width):
    """What < makes."""
    return 1 if one < other else 0


def is_same(one, other, width):
    """What = makes."""
    return 1 if one == other else 0


OPS = {
    "+": added, "-": taken_away, "&": bits_of_both, "|": bits_of_any, "^": bits_of_just_one,
    "<<": doubled, ">>": halved, "<": is_less, "=": is_same,
}


def ops_told():
    """The nine operations, in their order."""
    return list(OPS)


def reckoned(op, one, other, width):
    """The word that the operation makes of two words of the width."""
    made = OPS[op]
    return made(one, other, width)
