"""Promises 52, 61 to 65 and 71 to 74 once more, told otherwise than in the program, to hold it against."""


def own(e):
    """The own expressions of an expression."""
    return {"number": (), "field": (), "place": (), "mark": ()}.get(e[0], e[1:])


def needs(e):
    if e[0] in ("number", "field"):
        return 0
    if e[0] in ("place", "mark"):
        return 1
    if e[0] == "cell":
        return max(1, needs(e[1]))
    one, other = needs(e[1]), needs(e[2])
    return one + 1 if one == other and one > 0 else max(one, other, 1)


def rests(sets):
    """All expressions on which the sets rest, in order, each with its way: where it stands."""
    told = []
    for at, given in enumerate(sets):
        for nth, e in enumerate(given[1:] if given[0] == "cell" else given[2:]):
            told.append(((at, nth), e))
    return told


def needs_of_all(sets):
    falling = sorted((needs(e) for _, e in rests(sets) if needs(e)), reverse=True)
    return max((need + nth for nth, need in enumerate(falling)), default=0)


def along(where, e, best):
    """The ways of an expression's parts, itself last; best tells whether those that need more go first."""
    if needs(e) == 0:
        return []
    parts = [(where + (nth,), part) for nth, part in enumerate(own(e))]
    if best and len(parts) == 2 and needs(parts[1][1]) > needs(parts[0][1]):
        parts.reverse()
    return [way for inner in parts for way in along(*inner, best)] + [where]


def at_way(sets, way):
    """The expression that stands at a way."""
    e = dict(rests(sets))[way[:2]]
    for nth in way[2:]:
        e = own(e)[nth]
    return e


def numbers(sets):
    """The number of each part, by its way."""
    ways = [way for where, e in rests(sets) for way in along(where, e, False)]
    return {way: number for number, way in enumerate(ways)}


def best_ways(sets):
    """The ways of the parts in the best order."""
    roots = sorted(rests(sets), key=lambda root: needs(root[1]), reverse=True)
    return [way for where, e in roots for way in along(where, e, True)]


def steps(sets, many):
    """The tuples of the steps."""
    free, place, told = list(range(many)), {}, []

    def source(way, e):
        return ("in", place[way]) if way in place else e

    for way in best_ways(sets):
        e = at_way(sets, way)
        sources = [source(way + (nth,), part) for nth, part in enumerate(own(e))]
        free.extend(number for sort, number in sources if sort == "in")
        place[way], *free = free
        head = {"place": "get", "mark": "ask", "cell": "cell"}.get(e[0], "two")
        rest = (e[1],) if head in ("get", "ask") else tuple(sources) if head == "cell" else (e[0], *sources)
        told.append((head, place[way], *rest))
    for at, given in enumerate(sets):
        sources = [source(way, e) for way, e in rests(sets) if way[0] == at]
        if given[0] == "cell":
            told.append(("store", *sources))
        else:
            told.append(({"place": "put", "mark": "tell"}[given[0]], given[1], *sources))
    return told


def touched(step):
    """What a step's tuple reads, and what it writes."""
    way = set() if step[0] == "two" else {"way"}
    reads = {part[1] for part in step if isinstance(part, tuple) and part[0] == "in"} | way
    return reads, ({step[1]} if step[0] in ("get", "ask", "cell", "two") else set()) | way


def beats(told):
    """The beats, by when each thing was last written and last touched."""
    written, last, packed = {}, {}, {}
    for number, step in enumerate(told):
        reads, writes = touched(step)
        beat = max([written.get(name, 0) for name in reads | writes] + [last.get(name, 0) for name in writes], default=0)
        packed.setdefault(beat, []).append(number)
        for name in reads | writes:
            last[name] = max(last.get(name, 0), beat + 1)
        for name in writes:
            written[name] = max(written.get(name, 0), beat + 1)
    return [packed[beat] for beat in sorted(packed)]


def leaves(deed):
    """The leaves in reading order, each with how many choices stand ahead of it."""
    if deed[0] == "leaf":
        return [(deed, 0)]
    return [(leaf, ahead + 1) for part in deed[2:] for leaf, ahead in leaves(part)]


def laid(room, deed, many):
    """Lays a deed into a list of told little rows; the address to which it comes."""
    if deed[0] == "if":
        yes, no = laid(room, deed[2], many), laid(room, deed[3], many)
        (sort, sel), head = deed[1], {"mark": "ask"}.get(deed[1][0], "get")
        row = (((head, 0, sel),), ({"top": "top"}.get(sort, "some"), 0, yes, no))
        return at_or_behind(room, row)
    told, on = steps(deed[1], many), ("done", deed[2])
    for beat in reversed(beats(told) or [[]]):
        address = at_or_behind(room, (tuple(told[number] for number in beat), on))
        on = ("on", address)
    return address


def at_or_behind(room, row):
    """The address of a told little row: where it lies, else in the first hole, else behind all others."""
    if row not in room and None in room:
        room[room.index(None)] = row
    elif row not in room:
        room.append(row)
    return room.index(row)


def reached(room, entry):
    """The addresses to which it can come from an entry."""
    found, waiting = set(), {entry}
    while waiting - found:
        address = (waiting - found).pop()
        found.add(address)
        on = room[address][1]
        waiting |= set(on[1:] if on[0] == "on" else on[2:])
    return found


def changed(room, entries, table, kind, many, size):
    """The refusal that is due as a tuple, or (the told room, entries), of a room whose kind is changed by a table."""
    deed = dict((name, deed) for name, _, deed in table.told()[6])[kind]
    for leaf, _ in leaves(deed):
        if needs_of_all(leaf[1]) > many:
            return ("Crowded", kind, needs_of_all(leaf[1]))
    stays = set().union(*[reached(room, entry) for other, entry in entries.items() if other != kind])
    new = [row if address in stays else None for address, row in enumerate(room)]
    entry = laid(new, deed, many)
    if len(new) > size:
        return ("NoRoom", kind, len(new) - size)
    return new, {**entries, kind: entry}


def made(table, many, size):
    """The refusal that is due as a tuple, or (the told room, entries, lengths)."""
    room, entries, lengths = [], {}, {}
    for kind, _, deed in table.told()[6]:
        for leaf, _ in leaves(deed):
            if needs_of_all(leaf[1]) > many:
                return ("Crowded", kind, needs_of_all(leaf[1]))
        entries[kind] = laid(room, deed, many)
        if len(room) > size:
            return ("NoRoom", kind, len(room) - size)
        lengths[kind] = [ahead + max(1, len(beats(steps(leaf[1], many)))) for leaf, ahead in leaves(deed)]
    return room + [None] * (size - len(room)), entries, lengths
