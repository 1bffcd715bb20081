"""The texts of little rows and of rooms, read; and a room, written.

What a text tells is first made a tuple, with None where it tells nothing: so what is no little row's tuple
was no little row's text.
"""

from rowsbeneath.errors import BadLine
from rowsbeneath.figures import number_of
from rowsbeneath.little import little_of
from rowsbeneath.stepforms import is_little

MOST_ADDRESSES = 400
NO_LITTLE = "-"


def read_little(text):
    """The Little that is written so, of any thing."""
    told = little_told(text) if isinstance(text, str) else None
    if not is_little(told):
        raise BadLine(0)
    return little_of(told)


def show_room(room):
    """The text of a room, a row for each address."""
    return "\n".join([NO_LITTLE if little is None else little.words() for little in room])


def read_room(text):
    """The room that is written so, a list of Littles and None, of any thing."""
    if not isinstance(text, str):
        raise BadLine(0)
    room = []
    for at, row in enumerate(text.split("\n")):
        told = little_told(row)
        if at == MOST_ADDRESSES or row != NO_LITTLE and not is_little(told):
            raise BadLine(at)
        room.append(None if row == NO_LITTLE else little_of(told))
    return room


def little_told(text):
    """The tuple that a text tells, a little row's where it is one's text."""
    if text.startswith(": "):
        return ((), on_told(text[2:].split(" ")))
    steps, colon, on = text.partition(" : ")
    return (tuple([step_told(step.split(" ")) for step in steps.split(" , ")]), on_told(on.split(" ")))


def step_told(words):
    """The tuple of a step that these words tell."""
    head = words[0]
    if head == "two" and len(words) == 5:
        return (head, inner_told(words[1]), words[2], source_told(words[3]), source_told(words[4]))
    if len(words) != 3:
        return None
    if head == "get":
        return (head, inner_told(words[1]), sel_told("p", words[2]))
    if head == "ask":
        return (head, inner_told(words[1]), sel_told("m", words[2]))
    if head == "cell":
        return (head, inner_told(words[1]), source_told(words[2]))
    if head == "put":
        return (head, sel_told("p", words[1]), source_told(words[2]))
    if head == "tell":
        return (head, sel_told("m", words[1]), source_told(words[2]))
    return (head, source_told(words[1]), source_told(words[2]))


def on_told(words):
    """How it goes on, as these words tell."""
    head = words[0]
    if head == "on" and len(words) == 2:
        return (head, number_of(words[1]))
    if head in ("some", "top") and len(words) == 4:
        return (head, inner_told(words[1]), number_of(words[2]), number_of(words[3]))
    return (head, end_told(words[1:]))


def end_told(words):
    """The end that these words tell."""
    if len(words) == 2 and words[0] in ("go", "call"):
        return (words[0], number_behind("f", words[1]))
    return tuple(words)


def inner_told(word):
    """The number of an inner place."""
    return number_behind("r", word)


def sel_told(letter, word):
    """The sel of a place or a mark, with the letter for it."""
    if word.startswith("f"):
        return ("by", number_behind("f", word))
    return ("is", number_behind(letter, word))


def source_told(word):
    """The source that a word tells."""
    if word.startswith("r"):
        return ("in", number_behind("r", word))
    if word.startswith("f"):
        return ("field", number_behind("f", word))
    return ("number", number_of(word))


def number_behind(letter, word):
    """The number behind a letter, or None."""
    return number_of(word[1:]) if word.startswith(letter) else None
