"""Two tables of one shape whose kinds are plain: alike by a paper, or parted by a row and a state."""

from rowsbeneath.errors import NotPlain, Unlike
from rowsbeneath.forms import chosen_of, decided, effect_of, is_plain, selected
from rowsbeneath.parting import parted_by
from rowsbeneath.programs import same_shape
from rowsbeneath.stepforms import is_headed
from rowsbeneath.sums import is_within


def alike(one, other):
    """How two tables stand beside one another: alike with a paper, or parted with a row and a state."""
    need_plain(one, other)
    paper = []
    for kind, chosen in choices_of(one):
        case = case_of(one, other, kind, chosen, ())
        if case[0] == "parted":
            return case
        paper.append((kind, chosen, case))
    return ("alike", paper)


def need_plain(one, other):
    """Refuses two tables of unlike shapes, and a kind that is not plain."""
    if not same_shape(one, other):
        raise Unlike("shape")
    for kind in one.kinds:
        if not is_plain(one, kind) or not is_plain(other, kind):
            raise NotPlain(kind)


def choices_of(table):
    """All kinds, each with all of its chosen."""
    return [(kind, chosen) for kind in table.kinds for chosen in chosen_of(table, kind)]


def come_to(table, kind, chosen, known):
    """The leaf to which a kind's deed comes by what is known, or the first choice that is not decided."""
    deed = table.deed(kind)
    while deed[0] == "if":
        truth = decided(known, test_chosen(chosen, deed[1]))
        if truth is None:
            return deed
        deed = deed[2] if truth else deed[3]
    return deed


def test_chosen(chosen, test):
    """A test of a deed with a number in the place of its sel."""
    return (test[0], selected(chosen, test[1]))


def case_of(one, other, kind, chosen, known):
    """A case of two tables, or ("parted", row, state) where there is none."""
    effects = []
    for table in (one, other):
        deed = come_to(table, kind, chosen, known)
        if deed[0] == "if":
            return choice_of(one, other, kind, chosen, known, test_chosen(chosen, deed[1]))
        effects.append(effect_of(table, chosen, known, deed))
    if effects[0] == effects[1]:
        return ("leaf", effects[0])
    row, state = parted_by(one, other, kind, chosen, known)
    return ("parted", row, state)


def choice_of(one, other, kind, chosen, known, test):
    """The case that asks a test, or ("parted", row, state)."""
    arms = []
    for truth in (True, False):
        case = case_of(one, other, kind, chosen, known + ((test, truth),))
        if case[0] == "parted":
            return case
        arms.append(case)
    return ("test", test, arms[0], arms[1])


def alike_holds(one, other, paper):
    """Whether the paper, any thing, shows that two tables do the same."""
    need_plain(one, other)
    choices = choices_of(one)
    if not isinstance(paper, list) or len(paper) != len(choices):
        return False
    return all([entry_holds(one, other, choice, entry) for choice, entry in zip(choices, paper)])


def entry_holds(one, other, choice, entry):
    """Whether the thing is the entry of a kind and its chosen."""
    if not isinstance(entry, tuple) or len(entry) != 3 or not is_just(entry[:2], choice):
        return False
    return case_holds(one, other, choice, (), entry[2])


def is_just(thing, told):
    """Whether the thing is what is told, in its kinds too: True and False are no numbers."""
    if not isinstance(told, tuple):
        return thing == told and not isinstance(thing, bool)
    if not isinstance(thing, tuple) or len(thing) != len(told):
        return False
    return all([is_just(part, wanted) for part, wanted in zip(thing, told)])


def case_holds(one, other, choice, known, case):
    """Whether the thing is a case of a kind and its chosen, by what is known."""
    if is_headed(case, "leaf", 2):
        return leaf_holds(one, choice, known, case[1]) and leaf_holds(other, choice, known, case[1])
    if not is_headed(case, "test", 4) or not is_test_of(one, case[1]) or decided(known, case[1]) is not None:
        return False
    yes = known + ((case[1], True),)
    no = known + ((case[1], False),)
    return case_holds(one, other, choice, yes, case[2]) and case_holds(one, other, choice, no, case[3])


def leaf_holds(table, choice, known, effect):
    """Whether a table's deed comes, by what is known, to a leaf of just this effect."""
    kind, chosen = choice
    deed = come_to(table, kind, chosen, known)
    return deed[0] == "leaf" and is_just(effect, effect_of(table, chosen, known, deed))


def is_test_of(table, thing):
    """Whether the thing is a test of one of the table's places or marks."""
    if is_headed(thing, "mark", 2):
        return is_within(thing[1], 0, len(table.marks) - 1)
    if is_headed(thing, "place", 2) or is_headed(thing, "top", 2):
        return is_within(thing[1], 0, len(table.places) - 1)
    return False
