"""Sayings to test with, and slow plain ways to find what the program tells of them."""

import random

from selfsay.sayings import put

NO = ("no",)
P = ("letter", "p")
Q = ("letter", "q")
R = ("letter", "r")
JOINS = ("and", "or", "if")
MARKS = ("", "p", "q", "r", "pq", "pr", "qr", "pqr")


def sayings_by_size(greatest):
    """A dict from each size up to the greatest to all sayings of it."""
    by_size = {1: [NO, P, Q, R]}
    for size in range(2, greatest + 1):
        found = [(word, a) for word in ("not", "shown") for a in by_size[size - 1]]
        for ahead in range(1, size - 1):
            for a in by_size[ahead]:
                found += [(word, a, b) for b in by_size[size - 1 - ahead] for word in JOINS]
        by_size[size] = found
    return by_size


def small_sayings(greatest=4):
    return [saying for found in sayings_by_size(greatest).values() for saying in found]


def inner(saying):
    return [] if saying[0] in ("no", "letter") else list(saying[1:])


def all_parts(saying):
    """The parts, each as often as it stands."""
    return [saying] + [part for a in inner(saying) for part in all_parts(a)]


def plain_depth(saying):
    depths = [plain_depth(a) for a in inner(saying)]
    return max(depths, default=0) + (saying[0] == "shown")


def plain_put(saying, sayings):
    if saying[0] == "letter":
        return sayings.get(saying[1], saying)
    return (saying[0],) + tuple(plain_put(a, sayings) for a in inner(saying))


def plain_text(saying):
    word, rest = saying[0], [plain_text(a) for a in inner(saying)]
    if word == "no":
        return "0"
    if word == "letter":
        return saying[1]
    if word == "not":
        return "~" + rest[0]
    if word == "shown":
        return "[" + rest[0] + "]"
    return "(" + rest[0] + {"and": "&", "or": "|", "if": ">"}[word] + rest[1] + ")"


def wrapped(word, times, saying):
    """not or shown said of a saying many times."""
    for _ in range(times):
        saying = (word, saying)
    return saying


def grown(saying, times):
    """The saying put for its own p again and again, twice as deep each time."""
    for _ in range(times):
        saying = put(saying, {"p": saying})
    return saying


def doubled(saying, times):
    """The saying put for both letters of an and again and again, in twice as many places each time."""
    for _ in range(times):
        saying = put(("and", P, P), {"p": saying})
    return saying


def left_deep(word, joins, last=P):
    saying = last
    for _ in range(joins):
        saying = (word, saying, Q)
    return saying


def right_deep(word, joins, last=P):
    saying = last
    for _ in range(joins):
        saying = (word, Q, saying)
    return saying


def sayings_of_size_120():
    """Deep ones; 59 joins have 119 parts."""
    found = [wrapped("not", 119, P), wrapped("shown", 119, P)]
    found.append(wrapped("not", 60, wrapped("shown", 59, NO)))
    for word in JOINS:
        found.append(("not", left_deep(word, 59)))
        found.append(("shown", right_deep(word, 59)))
    return found


def all_trees(count, marks=("",)):
    """All trees of so many rooms, marked in all ways by these marks."""
    lists = [[]]
    for k in range(count):
        lists = [rooms + [(below, each)] for rooms in lists for below in (range(k) if k else (-1,))
                 for each in marks]
    return lists


def plain_above(rooms, room):
    found = [k for k, (below, _) in enumerate(rooms) if below == room]
    return sorted(found + [k for a in found for k in plain_above(rooms, a)])


def plain_height(rooms, room):
    return max([1 + plain_height(rooms, k) for k, (below, _) in enumerate(rooms) if below == room], default=0)


def plain_worth(rooms, saying, room):
    word = saying[0]
    if word == "no":
        return False
    if word == "letter":
        return saying[1] in rooms[room][1]
    if word == "shown":
        return all(plain_worth(rooms, saying[1], k) for k in plain_above(rooms, room))
    first = plain_worth(rooms, saying[1], room)
    if word == "not":
        return not first
    second = plain_worth(rooms, saying[2], room)
    return {"and": first and second, "or": first or second, "if": not first or second}[word]


def plain_row(saying):
    """The row, found in the rooms of a chain that is high enough."""
    depth = plain_depth(saying)
    rooms = [(k - 1, "") for k in range(depth + 1)]
    return [plain_worth(rooms, saying, depth - height) for height in range(depth + 1)]


def some_sayings(seed, count, size, leaves=(NO, P, Q, R)):
    """Sayings of one size, the same ones in each run."""
    chance = random.Random(seed)

    def made(parts):
        if parts == 1:
            return chance.choice(leaves)
        if parts == 2 or chance.random() < 0.4:
            return (chance.choice(("not", "shown")), made(parts - 1))
        ahead = chance.randint(1, parts - 2)
        return (chance.choice(JOINS), made(ahead), made(parts - 1 - ahead))

    return [made(size) for _ in range(count)]


def some_trees(seed, count, rooms):
    """Trees of so many rooms, the same ones in each run."""
    chance = random.Random(seed)
    return [[(chance.randrange(k) if k else -1, chance.choice(MARKS)) for k in range(rooms)]
            for _ in range(count)]


def spoil(told):
    """Change all lists within what was told."""
    for each in told:
        if isinstance(each, (list, tuple)):
            spoil(each)
    if isinstance(told, list):
        told.reverse()
        told.append("spoilt")
        told[0] = None
