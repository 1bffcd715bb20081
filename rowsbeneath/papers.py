"""Papers for the kinds of made rooms."""

from rowsbeneath.terms import inner_behind, is_both_ways, puts_behind, ways_on


def paper_of(made, kind):
    """The paper of a kind, entry by entry from the kind's own one on."""
    laid = made.rows_laid()
    entries = []
    nexts = []
    waiting = [(None, (made.entry(kind), (), (), ()))]
    while waiting:
        ahead, entry = waiting.pop()
        if ahead is not None:
            nexts[ahead].append(len(entries))
        # The last one that waits comes next: so all to which a yes leads come ahead of its no.
        for further in reversed(entries_behind(laid, entry)):
            waiting.append((len(entries), further))
        entries.append(entry)
        nexts.append([])
    return [entry + (tuple(numbers),) for entry, numbers in zip(entries, nexts)]


def entries_behind(laid, entry):
    """The entries to which one leads, all of them without their nexts."""
    address, known, inner, puts = entry
    if is_both_ways(known):
        return []
    little = laid[address]
    return ways_on(little.on, known, inner_behind(little, inner, puts), puts_behind(little, inner, puts))
