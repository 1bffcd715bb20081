"""The checker: whether a paper shows that little rows do what a kind's deed tells."""

from rowsbeneath.little import fits
from rowsbeneath.packing import meets
from rowsbeneath.paperforms import is_paper
from rowsbeneath.terms import inner_behind, is_both_ways, puts_behind, ways_on


def lets_by(table, kind, room, many, entry, paper):
    """Whether the paper, any thing, shows it of the little rows from the entry on."""
    deed = table.deed(kind)
    if not is_paper(paper) or paper[0][:4] != (entry, (), (), ()):
        return False
    found = {}
    for address in sorted(set([told[0] for told in paper])):
        found[address] = little_found(table, kind, room, many, address)
    return all([is_sound(deed, found, paper, at) for at in range(len(paper))])


def little_found(table, kind, room, many, address):
    """The little row at the address, or None where none lies there that rows of the kind may do."""
    little = room[address] if address < len(room) else None
    if little is None or not fits(table, kind, many, little) or has_meeting(little.steps):
        return None
    return little


def has_meeting(steps):
    """Whether two of the steps meet."""
    return any([meets(steps[one], steps[other]) for other in range(len(steps)) for one in range(other)])


def is_sound(deed, found, paper, at):
    """Whether the entry with this number is sound."""
    address, known, inner, puts, nexts = paper[at]
    if is_both_ways(known):
        return nexts == ()
    little = found[address]
    given = None if little is None else puts_behind(little, inner, puts)
    if given is None:
        return False
    ways = ways_on(little.on, known, inner_behind(little, inner, puts), given)
    if len(nexts) != len(ways) or not all([number > at for number in nexts]):
        return False
    if little.on[0] == "done":
        return leaf_known(deed, known) == ("leaf", given, little.on[1])
    return all([follows(paper[number], way) for number, way in zip(nexts, ways)])


def leaf_known(deed, known):
    """The leaf to which a deed comes by the tests that are known, or None."""
    while deed is not None and deed[0] == "if":
        if (deed[1], True) in known:
            deed = deed[2]
        else:
            deed = deed[3] if (deed[1], False) in known else None
    return deed


def follows(entry, way):
    """Whether an entry tells no more than what is known on this way to it, and just what was given."""
    address, known, inner, puts = way
    if entry[0] != address or entry[3] != puts:
        return False
    return all([pair in known for pair in entry[1]]) and all([pair in inner for pair in entry[2]])
