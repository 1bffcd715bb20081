"""Steps packed into beats, and chains of steps that meet."""

from rowsbeneath.sums import is_within


def meets(one, other):
    """Whether one of two steps writes what the other one reads or writes."""
    return touches(one.writes(), other) or touches(other.writes(), one)


def touches(names, step):
    """Whether a step reads or writes one of the names."""
    touched = step.reads() + step.writes()
    return any([name in touched for name in names])


def packed(steps):
    """The beats, each a list of the numbers of its steps."""
    beats = []
    for at, beat in enumerate(beats_told(steps)):
        if beat == len(beats):
            beats.append([])
        beats[beat].append(at)
    return beats


def beats_told(steps):
    """For each step the number of its beat."""
    told = []
    for at, step in enumerate(steps):
        ahead = [told[other] + 1 for other in range(at) if meets(steps[other], step)]
        told.append(max(ahead, default=0))
    return told


def chain_of(steps):
    """A chain with a number of each beat."""
    chain = []
    for beat in reversed(packed(steps)):
        chain.insert(0, beat[0] if not chain else first_that_meets(steps, beat, chain[0]))
    return chain


def first_that_meets(steps, beat, number):
    """The least number of a beat whose step meets the step of the number."""
    return min([other for other in beat if meets(steps[other], steps[number])])


def are_rising(steps, thing):
    """Whether the thing is a list of numbers of steps that rise."""
    if not isinstance(thing, list) or not all([is_within(number, 0, len(steps) - 1) for number in thing]):
        return False
    return all([one < other for one, other in zip(thing, thing[1:])])


def is_packing(steps, beats):
    """Whether the thing told as beats is a packing of the steps."""
    if not isinstance(beats, list) or not all([are_rising(steps, beat) and beat != [] for beat in beats]):
        return False
    beat_of = {}
    for at, beat in enumerate(beats):
        for number in beat:
            if number in beat_of:
                return False
            beat_of[number] = at
    return len(beat_of) == len(steps) and keeps_order(steps, beat_of)


def keeps_order(steps, beat_of):
    """Whether of two steps that meet the one ahead is in an earlier beat."""
    for later in range(len(steps)):
        for earlier in range(later):
            if beat_of[earlier] >= beat_of[later] and meets(steps[earlier], steps[later]):
                return False
    return True


def is_chain(steps, places):
    """Whether the thing told as places is a chain of the steps."""
    if not are_rising(steps, places):
        return False
    return all([meets(steps[one], steps[other]) for one, other in zip(places, places[1:])])
