"""Promises 22 to 25 once more, told otherwise than in the program, to hold it against.

The form is a grammar whose all readings are followed at once, token by token: a token can stand
just where a reading is left behind it, since each symbol of the grammar can come to an end.
"""

import re

from rowsbeneath.errors import NoFit, NoName, Twice

OPS = ("+", "-", "&", "|", "^", "<<", ">>", "<", "=")
OWN = ("word cells depth places marks gate kind place mark number row set if else top next go call back stop"
       " fault bell").split(" ")
START = ("word", ("width",), ";", "cells", ("from", 4, 64), ";", "depth", ("from", 0, 8), ";",
         "places", ("names", 1, 4), ";", "marks", ("names", 0, 3), ";", "gate", ("names", 0, 1), ";", ("kinds", 8))


def expansions(symbol):
    """What a symbol may be, as a list of tuples of symbols; None of one that is a token."""
    if isinstance(symbol, str) or symbol[0] in ("width", "from", "name", "fault", "one", "figures"):
        return None
    sort, *rest = symbol
    if sort == "names":
        least, most = rest
        none = [()] if least == 0 else []
        return none + ([(("name",), ("names", max(least - 1, 0), most - 1))] if most else [])
    if sort == "kinds":
        kind = ("kind", ("name",), "(", ("fields",), ")", ("body", 0))
        return ([()] if rest[0] < 8 else []) + ([kind + (("kinds", rest[0] - 1),)] if rest[0] else [])
    if sort == "fields":
        field = (("name",), ("one", ("place", "mark", "number", "row")))
        return [(), field, field + (",",) + field, field + (",",) + field + (",",) + field]
    if sort == "body":
        inner = ("body", rest[0] + 1)
        choice = [("{", "if", test, inner, "else", inner, "}") for test in (("name",), ("top",))]
        return [("{", ("sets", 4, 1), "}")] + (choice if rest[0] < 3 else [])
    if sort == "top":
        return [("top", ("name",))]
    if sort == "sets":
        left, cells = rest
        told = [("next",), ("go", ("name",)), ("call", ("name",)), ("back",), ("stop",), ("fault", ("fault",))]
        if left:
            told.append(("set", ("name",), "=", ("e", 3), ";", ("sets", left - 1, cells)))
        if left and cells:
            told.append(("set", "[", ("e", 3), "]", "=", ("e", 3), ";", ("sets", left - 1, cells - 1)))
        return told
    inner = ("e", rest[0] - 1)
    bracketed = [("[", inner, "]"), ("(", inner, ("one", OPS), inner, ")")] if rest[0] else []
    return [(("name",),), (("figures",),)] + bracketed


def is_name(token):
    return re.fullmatch("[a-z]{1,8}", token) is not None and token not in OWN


def is_number(token, low, high):
    return re.fullmatch("0|[1-9][0-9]{0,30}", token) is not None and low <= int(token) <= high


def fits(symbol, token, width):
    """Whether a token is of a symbol that has no expansions."""
    if isinstance(symbol, str):
        return token == symbol
    if symbol[0] == "width":
        return is_number(token, 4, 24)
    if symbol[0] == "from":
        return is_number(token, symbol[1], symbol[2])
    if symbol[0] == "figures":
        return is_number(token, 0, 2 ** width - 1)
    if symbol[0] == "one":
        return token in symbol[1]
    return is_name(token) and not (symbol[0] == "fault" and token in ("deep", "bare"))


def opened(stacks):
    """All stacks that begin with a token, or are empty, to which these may be expanded."""
    told = set()
    waiting = list(stacks)
    while waiting:
        stack = waiting.pop()
        told_as = expansions(stack[0]) if stack else None
        if told_as is None:
            told.add(stack)
        else:
            waiting.extend(wider + stack[1:] for wider in told_as)
    return told


def wrong_place(tokens):
    """The number of the first token that cannot stand, or of the end that comes too early, or None."""
    stacks = opened({START})
    width = None
    for at, token in enumerate(tokens):
        left = {stack[1:] for stack in stacks if stack and fits(stack[0], token, width)}
        if at == 1500 or not left:
            return at
        if at == 1:
            width = int(token)
        stacks = opened(left)
    return None if () in stacks else len(tokens)


def wrong_name(tokens):
    """Of tokens whose form is right: the refusal of the first name for which one is due, with it, or None."""
    told = wrong_name_at(tokens)
    return None if told is None else told[:2]


def wrong_name_at(tokens):
    """The refusal, the name and its token's number, or None."""
    known, kinds, part, ahead = {}, [], "", ""
    for at, token in enumerate(tokens):
        behind = tokens[at + 1] if at + 1 < len(tokens) else ""
        if token in ("places", "marks", "gate", "kind"):
            part = token
            if token == "kind":
                known = {name: sort for name, sort in known.items() if sort in ("places", "marks")}
        elif token == "{":
            part = "body"
        elif is_name(token):
            due = due_for(part, ahead, token, known, kinds)
            if due is not None:
                return (due, token, at)
            if part in ("places", "marks"):
                known[token] = part
            elif part == "kind" and ahead == "kind":
                kinds.append(token)
            elif part == "kind":
                known[token] = behind
        ahead = token
    return None


def due_for(part, ahead, token, known, kinds):
    """The refusal that is due for one name, or None."""
    sort = known.get(token)
    if part in ("places", "marks") or part == "kind" and ahead != "kind":
        return Twice if sort else None
    if part == "kind":
        return Twice if token in kinds else None
    if ahead == "fault":
        return None
    if sort is None:
        return NoName
    place, mark = sort in ("places", "place"), sort in ("marks", "mark")
    if part == "gate":
        return None if mark else NoFit
    allowed = {"if": place or mark, "set": place or mark, "top": place, "go": sort == "row", "call": sort == "row"}
    return None if allowed.get(ahead, sort != "row") else NoFit


def random_tokens(source):
    """The tokens of some text whose form is right."""
    tokens, stack = [], list(reversed(START))
    width = source.randint(4, 24)
    while stack:
        symbol = stack.pop()
        told_as = expansions(symbol)
        if told_as is not None:
            stack.extend(reversed(source.choice(told_as)))
        else:
            tokens.append(random_token(source, symbol, width))
    return tokens


def mended(source, tokens):
    """The tokens with other names where names are wrong; None where that does not come about."""
    told = list(tokens)
    tries = {}
    wrong = wrong_name_at(told)
    while wrong is not None:
        tries[wrong[2]] = tries.get(wrong[2], 0) + 1
        if tries[wrong[2]] > 60:
            return None
        told[wrong[2]] = random_token(source, ("name",), 4)
        wrong = wrong_name_at(told)
    return told


def random_token(source, symbol, width):
    """Some token of a symbol."""
    if isinstance(symbol, str):
        return symbol
    if symbol[0] == "width":
        return str(width)
    if symbol[0] == "from":
        return str(source.randint(symbol[1], symbol[2]))
    if symbol[0] == "figures":
        return str(source.choice([0, 1, 2 ** width - 1, source.randrange(2 ** width)]))
    if symbol[0] == "one":
        return source.choice(symbol[1])
    return source.choice(["a", "b", "x"]) + source.choice(["", "", "a", "b", "c", "d", "e"])
