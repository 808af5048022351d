"""Sayings written as texts, and read again."""

from selfsay.errors import NoSaying

LEAVES = {"0": ("no",), "p": ("letter", "p"), "q": ("letter", "q"), "r": ("letter", "r")}
BEGINNINGS = {"~": ("not",), "[": ("shown",), "(": ()}
JOINS = {"&": "and", "|": "or", ">": "if"}
JOIN_SIGNS = {"and": "&", "or": "|", "if": ">"}


def written(saying):
    """The text of a saying."""
    pending = [saying]
    signs = []
    while pending:
        piece = pending.pop()
        if isinstance(piece, str):
            signs.append(piece)
        else:
            pending.extend(list(reversed(pieces_of(piece))))
    return "".join(signs)


def pieces_of(saying):
    """The texts and sayings that follow one another in the text of a saying."""
    word = saying[0]
    if word == "no":
        return ["0"]
    if word == "letter":
        return [saying[1]]
    if word == "not":
        return ["~", saying[1]]
    if word == "shown":
        return ["[", saying[1], "]"]
    return ["(", saying[1], JOIN_SIGNS[word], saying[2], ")"]


def read(text):
    """The saying of a text.

    What is begun and not ended yet waits, the innermost last: ("not",), ("shown",), () behind a
    bracket, ("and", A) and its like behind a join. None is whole where a saying has to begin.
    """
    waiting = []
    whole = None
    for place, sign in enumerate(text):
        if whole is None:
            whole = begun(sign, place, waiting)
        else:
            whole = gone_on(whole, sign, place, waiting)
    if whole is None or waiting:
        raise NoSaying(len(text))
    return whole


def begun(sign, place, waiting):
    """What is whole behind a sign where a saying has to begin."""
    if sign in BEGINNINGS:
        waiting.append(BEGINNINGS[sign])
        return None
    if sign in LEAVES:
        return denied(LEAVES[sign], waiting)
    raise NoSaying(place)


def gone_on(whole, sign, place, waiting):
    """What is whole behind a sign that follows a whole saying."""
    if not waiting:
        raise NoSaying(place)
    outer = waiting.pop()
    if outer == () and sign in JOINS:
        waiting.append((JOINS[sign], whole))
        return None
    if outer == ("shown",) and sign == "]":
        return denied(("shown", whole), waiting)
    if len(outer) == 2 and sign == ")":
        return denied(outer + (whole,), waiting)
    raise NoSaying(place)


def denied(whole, waiting):
    """The whole saying with all the nots that wait straight ahead of it, which no sign ends."""
    while waiting and waiting[-1] == ("not",):
        waiting.pop()
        whole = ("not", whole)
    return whole
