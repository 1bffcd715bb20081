"""Promises 81 to 83 and 85 once more, told otherwise than in the program, to hold it against."""

OPS = ("+", "-", "&", "|", "^", "<<", ">>", "<", "=")
USES_WAY = ("get", "ask", "cell", "put", "tell", "store")
SETS = {"put": "place", "tell": "mark", "store": "cell"}
LOOKS = {"get": "place", "ask": "mark", "cell": "cell"}


def whole(thing, high):
    return type(thing) is int and 0 <= thing <= high


def sel(thing):
    return type(thing) is tuple and len(thing) == 2 and (
        thing[0] == "is" and whole(thing[1], 3) or thing[0] == "by" and whole(thing[1], 2))


def deep(term):
    """How deep a term is, or a thousand where the thing is none."""
    if type(term) is not tuple or len(term) not in (2, 3) or type(term[0]) is not str:
        return 1000
    if len(term) == 3:
        return 1 + max(deep(term[1]), deep(term[2])) if term[0] in OPS else 1000
    if term[0] == "cell":
        return 1 + deep(term[1])
    good = {"number": lambda n: whole(n, 2 ** 24 - 1), "field": lambda j: whole(j, 2), "place": sel, "mark": sel}
    return 1 if term[0] in good and good[term[0]](term[1]) else 1000


def entry_told(thing, entries):
    """Whether a thing is an entry by its form."""
    if type(thing) is not tuple or len(thing) != 5 or not all(type(part) is tuple for part in thing[1:]):
        return False
    address, known, inner, puts, nexts = thing
    tests = all(type(pair) is tuple and len(pair) == 2 and type(pair[1]) is bool and type(pair[0]) is tuple
                and len(pair[0]) == 2 and pair[0][0] in ("place", "mark", "top") and sel(pair[0][1]) for pair in known)
    places = all(type(pair) is tuple and len(pair) == 2 and whole(pair[0], 7) and deep(pair[1]) <= 4 for pair in inner)
    given = all(type(put) is tuple and len(put) == 3 and deep(put[2]) <= 4 and (
        put[0] == "cell" and deep(put[1]) <= 4 or put[0] in ("place", "mark") and sel(put[1])) for put in puts)
    return (whole(address, 399) and tests and places and given and all(whole(number, entries - 1) for number in nexts)
            and all(pair not in known[:at] for at, pair in enumerate(known)) and len(puts) <= 4
            and [pair[0] for pair in inner] == sorted(set(pair[0] for pair in inner)))


def step_touches(step):
    """What a told step reads, and what it writes."""
    sources = [part[1] for part in step[1:] if type(part) is tuple and part[0] == "in"]
    way = {"way"} if step[0] in USES_WAY else set()
    target = {step[1]} if step[0] in ("get", "ask", "cell", "two") else set()
    return set(sources) | way, target | way


def steps_meet(steps):
    pairs = [(one, other) for at, one in enumerate(steps) for other in steps[:at]]
    touched = {step: step_touches(step) for step in steps}
    return any(touched[one][1] & (touched[other][0] | touched[other][1]) or touched[other][1] & touched[one][0]
               for one, other in pairs)


def fits(table, kind, many, little):
    """Promise 45 of a told little row."""
    fields = dict((name, fields) for name, fields, _ in table.told()[6])[kind]
    sorts = dict(enumerate(sort for _, sort in fields))

    def part_fits(part, sort):
        if part[0] == "in":
            return part[1] < many
        if part[0] == "number":
            return part[1] < 2 ** table.width
        if part[0] == "field":
            return sorts.get(part[1]) == "number"
        return sorts.get(part[1]) == sort if part[0] == "by" else part[1] < len({"place": table.places, "mark": table.marks}[sort])

    steps, on = little
    for step in steps:
        if step[0] in ("get", "ask", "cell", "two") and step[1] >= many:
            return False
        sort = "mark" if step[0] in ("ask", "tell") else "place"
        if not all(part_fits(part, sort) for part in step[1:] if type(part) is tuple):
            return False
    if on[0] in ("some", "top"):
        return on[1] < many
    return on[0] != "done" or on[1][0] not in ("go", "call") or sorts.get(on[1][1]) == "row"


def behind(little, inner, puts):
    """(inner, puts) behind the steps, puts None where that is not as it must be."""
    now, given, good = dict(inner), list(puts), True
    was = dict(inner)
    for step in little[0]:
        terms = [was.get(part[1]) if part[0] == "in" else part for part in step[1:]
                 if type(part) is tuple and part[0] in ("in", "number", "field")]
        if step[0] in SETS:
            good = good and None not in terms
            given.append((SETS[step[0]],) + (tuple(terms) if step[0] == "store" else (step[1], *terms)))
            continue
        if step[0] == "two":
            term = (step[2], *terms)
        else:
            term = (LOOKS[step[0]], *(terms or step[2:]))
            if any(put[0] == LOOKS[step[0]] for put in puts):
                terms = [None]
        now.pop(step[1], None)
        if None not in terms and deep(term) <= 4:
            now[step[1]] = term
    return now, tuple(given) if good and len(given) <= 4 else None


def pair_told(on, inner, truth):
    """The pairs that a way on tells, in a list of one or none."""
    term = inner.get(on[1], ("none",))
    if on[0] == "some" and term[0] in ("place", "mark"):
        return [(term, truth)]
    return [(("top", term[1]), truth)] if on[0] == "top" and term[0] == "place" else []


def lead(deed, known):
    while deed[0] == "if":
        truths = [truth for test, truth in known if test == deed[1]]
        if not truths:
            return None
        deed = deed[2] if truths[0] else deed[3]
    return deed


def both(known):
    return len(set(test for test, _ in known)) < len(known)


def sound(table, kind, room, many, paper, at):
    address, known, inner, puts, nexts = paper[at]
    if both(known):
        return not nexts
    if address >= len(room) or room[address] is None:
        return False
    little = room[address]
    if not fits(table, kind, many, little) or steps_meet(little[0]):
        return False
    now, given = behind(little, inner, puts)
    if given is None:
        return False
    on = little[1]
    if on[0] == "done":
        deed = dict((name, deed) for name, _, deed in table.told()[6])[kind]
        return not nexts and lead(deed, known) == ("leaf", given, on[1])
    led = [(on[1], [])] if on[0] == "on" else [(on[2], pair_told(on, now, True)), (on[3], pair_told(on, now, False))]
    if len(led) != len(nexts):
        return False
    for number, (to, pairs) in zip(nexts, led):
        entry = paper[number]
        if number <= at or entry[0] != to or entry[3] != given:
            return False
        if set(entry[1]) - set(known) - set(pairs) or set(entry[2]) - set(now.items()):
            return False
    return True


def lets_by(table, kind, room, many, entry, paper):
    """The answer of the checker, of a room of told little rows."""
    if type(paper) is not list or not 1 <= len(paper) <= 1000 or not all(entry_told(told, len(paper)) for told in paper):
        return False
    if paper[0][:4] != (entry, (), (), ()):
        return False
    return all(sound(table, kind, room, many, paper, at) for at in range(len(paper)))


def paper(room, entry):
    """The told paper of a room of told little rows, from an entry on."""
    told = []

    def add(address, known, inner, puts):
        number = len(told)
        told.append(None)
        nexts = ()
        now, given = behind(room[address], inner, puts)
        on = room[address][1]
        here = tuple(sorted(now.items()))
        if both(known) or on[0] == "done":
            pass
        elif on[0] == "on":
            nexts = (add(on[1], known, here, given),)
        else:
            for to, truth in ((on[2], True), (on[3], False)):
                pairs = tuple(pair for pair in pair_told(on, now, truth) if pair not in known)
                nexts += (add(to, known + pairs, here, given),)
        told[number] = (address, known, inner, puts, nexts)
        return number

    add(entry, (), (), ())
    return told
