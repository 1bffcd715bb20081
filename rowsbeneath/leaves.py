"""The parts of a leaf's sets, an order in which few values are held, and steps for them.

What an expression is told as is the number of its part, or the expression itself where it is no part.
"""

from rowsbeneath.steps import Ask, Cell, Get, Put, Store, Tell, Two
from rowsbeneath.sums import is_whole, is_within


def parts_of(sets):
    """The parts of the sets, as tuples."""
    return parts_and_roots(sets)[0]


def roots_of(sets):
    """For each set a tuple of what it rests on."""
    return parts_and_roots(sets)[1]


def parts_and_roots(sets):
    """Both, since the numbers in the one are places in the other."""
    parts = []
    roots = []
    for given in sets:
        rests = given[1:] if given[0] == "cell" else given[2:]
        roots.append(tuple([part_added(parts, e) for e in rests]))
    return (parts, roots)


def part_added(parts, e):
    """Adds the parts of an expression behind the others, and tells what it is told as."""
    if e[0] in ("number", "field"):
        return e
    if e[0] == "place":
        part = ("get", e[1])
    elif e[0] == "mark":
        part = ("ask", e[1])
    else:
        part = (e[0],) + tuple([part_added(parts, own) for own in e[1:]])
    parts.append(part)
    return len(parts) - 1


def own_parts(part):
    """The numbers of a part's own parts, in their order."""
    return [told for told in part[1:] if is_whole(told)]


def held_by(sets, order):
    """How many values are held behind each part along an order; None of what is no order."""
    parts = parts_of(sets)
    if not is_order(parts, order):
        return None
    held = []
    many = 0
    for number in order:
        many += 1 - len(own_parts(parts[number]))
        held.append(many)
    return held


def is_order(parts, thing):
    """Whether the thing is an order of the parts."""
    if not isinstance(thing, list) or len(thing) != len(parts):
        return False
    done = {}
    for number in thing:
        if not is_within(number, 0, len(parts) - 1) or number in done:
            return False
        if not all([own in done for own in own_parts(parts[number])]):
            return False
        done[number] = True
    return True


def needs_of(e):
    """How many inner places an expression needs."""
    parts = []
    told = part_added(parts, e)
    return needs_told(needs_of_parts(parts), told)


def needs_told(needs, told):
    """What an expression needs, by what it is told as and what the parts need."""
    return needs[told] if is_whole(told) else 0


def needs_of_parts(parts):
    """What each part needs."""
    needs = []
    for part in parts:
        own = [needs[number] for number in own_parts(part)]
        # A part with two own parts that need as many holds the first one's value while it does the second one.
        more = 1 if len(own) == 2 and own[0] == own[1] else 0
        needs.append(max(own, default=1) + more)
    return needs


def roots_falling(roots, needs):
    """The parts on which sets rest, those that need more ahead."""
    rests = [told for root in roots for told in root if is_whole(told)]
    return sorted(rests, key=lambda number: -needs[number])


def needs_of_sets(sets):
    """How many inner places the sets need."""
    parts, roots = parts_and_roots(sets)
    needs = needs_of_parts(parts)
    falling = [needs[number] for number in roots_falling(roots, needs)]
    return max([need + at for at, need in enumerate(falling)], default=0)


def best_order(sets):
    """The numbers of the parts in an order in which no more values are held than the sets need."""
    parts, roots = parts_and_roots(sets)
    needs = needs_of_parts(parts)
    order = []
    for number in roots_falling(roots, needs):
        order += order_to(parts, needs, number)
    return order


def order_to(parts, needs, number):
    """The order of a part and of all parts beneath it."""
    order = []
    for own in sorted(own_parts(parts[number]), key=lambda other: -needs[other]):
        order += order_to(parts, needs, own)
    return order + [number]


def steps_of(sets, many):
    """The steps of the sets, with so many inner places."""
    parts, roots = parts_and_roots(sets)
    free = list(range(many))
    inner_of = {}
    steps = []
    for number in best_order(sets):
        free += [inner_of[own] for own in own_parts(parts[number])]
        inner_of[number] = free.pop(0)
        steps.append(step_of_part(parts[number], inner_of[number], inner_of))
    for given, root in zip(sets, roots):
        steps.append(step_of_set(given, [source_of(inner_of, told) for told in root]))
    return steps


def source_of(inner_of, told):
    """The source of what an expression is told as, by the inner places of the parts."""
    return ("in", inner_of[told]) if is_whole(told) else told


def step_of_part(part, to, inner_of):
    """The step that makes a part's value in an inner place."""
    if part[0] == "get":
        return Get(to, part[1])
    if part[0] == "ask":
        return Ask(to, part[1])
    if part[0] == "cell":
        return Cell(to, source_of(inner_of, part[1]))
    return Two(to, part[0], source_of(inner_of, part[1]), source_of(inner_of, part[2]))


def step_of_set(given, sources):
    """The step that gives what a set tells."""
    if given[0] == "place":
        return Put(given[1], sources[0])
    if given[0] == "mark":
        return Tell(given[1], sources[0])
    return Store(sources[0], sources[1])
