"""Terms, and what is known behind the steps of a little row.

Inner is a tuple of pairs (r, term), puts a tuple of what was given so far, known a tuple of pairs (test, truth):
all of them as an entry of a paper tells them.
"""

from rowsbeneath.stepforms import is_headed, is_sel, is_source
from rowsbeneath.sums import ops_told

MOST_DEEP = 4
MOST_PUTS = 4
# What a step that only looks makes a term of, and what must not have been given ahead of it.
LOOKED_AT = {"get": "place", "ask": "mark", "cell": "cell"}
GIVEN_BY = {"put": "place", "tell": "mark", "store": "cell"}


def is_term(thing):
    """Whether the thing is an expression that is at most four deep."""
    return is_term_to(thing, MOST_DEEP)


def is_term_to(thing, deep):
    """Whether the thing is an expression that is at most so deep."""
    if deep == 0 or not isinstance(thing, tuple) or thing == ():
        return False
    if is_source(thing):
        return thing[0] != "in"
    if is_headed(thing, "place", 2) or is_headed(thing, "mark", 2):
        return is_sel(thing[1])
    if thing[0] in ops_told() and len(thing) == 3:
        return is_term_to(thing[1], deep - 1) and is_term_to(thing[2], deep - 1)
    return is_headed(thing, "cell", 2) and is_term_to(thing[1], deep - 1)


def source_terms(step, inner):
    """The terms of a step's sources, None for one of which nothing is known."""
    known = dict(inner)
    return [known.get(source[1]) if source[0] == "in" else source for source in step.sources()]


def term_made(step, inner, puts):
    """What is known of the inner place that a step changes, or None."""
    told = step.told()
    terms = source_terms(step, inner)
    if told[0] == "two":
        term = (told[2], terms[0], terms[1])
    else:
        sort = LOOKED_AT[told[0]]
        if sort in [put[0] for put in puts]:
            return None
        term = (sort, terms[0] if terms else told[2])
    # What is too deep is no term, nor is what is made of a source without one.
    return term if is_term(term) else None


def inner_behind(little, inner, puts):
    """What is known of the inner places behind the steps of a little row."""
    behind = dict(inner)
    for step in little.steps:
        for r in step.targets():
            behind[r] = term_made(step, inner, puts)
    return tuple([(r, behind[r]) for r in sorted(behind) if behind[r] is not None])


def puts_behind(little, inner, puts):
    """What was given behind the steps of a little row, or None where that is not known, or is too much."""
    given = list(puts)
    for step in little.steps:
        told = step.told()
        if told[0] in GIVEN_BY:
            terms = source_terms(step, inner)
            if None in terms or len(given) == MOST_PUTS:
                return None
            target = terms[0] if told[0] == "store" else told[1]
            given.append((GIVEN_BY[told[0]], target, terms[-1]))
    return tuple(given)


def test_told(on, inner):
    """The test of which a choice of the way on tells whether it holds, or None."""
    term = dict(inner).get(on[1])
    if term is None or term[0] not in ("place", "mark"):
        return None
    if on[0] == "some":
        return term
    return ("top", term[1]) if term[0] == "place" else None


def is_both_ways(known):
    """Whether a test is known both to hold and not to hold: to such a time no row comes."""
    return any([(test, not truth) in known for test, truth in known])


def ways_on(on, known, inner, puts):
    """What is known at each address at which it may go on, as tuples (address, known, inner, puts)."""
    if on[0] == "on":
        return [(on[1], known, inner, puts)]
    if on[0] == "done":
        return []
    test = test_told(on, inner)
    return [(on[2], with_truth(known, test, True), inner, puts), (on[3], with_truth(known, test, False), inner, puts)]


def with_truth(known, test, truth):
    """What is known where this truth of a test, or of none, is known besides."""
    pair = (test, truth)
    return known if test is None or pair in known else known + (pair,)
