"""The desk, which keeps a saying and answers lines."""

from selfsay.errors import NoLine, Nothing, TooMany
from selfsay.judging import alike, judged
from selfsay.kinds import kinds_of, tried
from selfsay.rows import row_of
from selfsay.sayings import depth_of, put, size_of
from selfsay.selves import answer
from selfsay.texts import read, written
from selfsay.trees import Chain

MOST_SIZE = 120
LETTERS = ("p", "q", "r")
MARKS = ("-", "p", "q", "r", "pq", "pr", "qr", "pqr")
COUNTS = {"say": 2, "put": 3, "judge": 1, "alike": 2, "row": 1, "self": 1, "kinds": 1}


class Desk:
    """A desk that keeps a saying, at first none."""

    def __init__(self):
        self.kept = None

    def say(self, line):
        """The answer to a line."""
        words = line.split(" ")
        refuse_wrong(words)
        if words[0] != "say" and self.kept is None:
            raise Nothing()
        if words[0] in ("say", "put"):
            return self.keep(words)
        return answered(words, self.kept)

    def keep(self, words):
        """The answer to a line that changes what is kept."""
        saying = read(words[-1])
        if words[0] == "say":
            self.kept = saying
            size = size_of(saying)
            depth = depth_of(saying)
            return f"size {size} depth {depth}"
        changed = put(self.kept, {words[1]: saying})
        if size_of(changed) > MOST_SIZE:
            raise TooMany()
        self.kept = changed
        return written(changed)


def refuse_wrong(words):
    """Refuse words that are no line."""
    if words[0] == "chain":
        if len(words) == 1 or not all([word in MARKS for word in words[1:]]):
            raise NoLine()
    elif COUNTS.get(words[0], 0) != len(words):
        raise NoLine()
    elif words[0] == "put" and words[1] not in LETTERS:
        raise NoLine()


def answered(words, kept):
    """The answer to a line that asks of the kept saying."""
    word = words[0]
    if word == "judge":
        return end_text(judged(kept), "shown", "fails")
    if word == "alike":
        return end_text(alike(kept, read(words[1])), "alike", "unlike")
    if word == "row":
        return signs_of(row_of(kept))
    if word == "self":
        return written(answer(kept))
    if word == "kinds":
        return kinds_text(kept)
    return signs_of(Chain([mark.replace("-", "") for mark in words[1:]]).holds(kept))


def end_text(told, good, bad):
    """The text of an end: the good word, or the bad one and the rooms of the tree."""
    if told[0] in ("showing", "alike"):
        return good
    return " ".join([bad] + [room_text(room) for room in told[1]])


def room_text(room):
    """The number of the room that a room stands on, and its marks."""
    return str(room[0]) + ":" + room[1]


def signs_of(truths):
    """A sign for each of the truths."""
    return "".join(["1" if truth else "0" for truth in truths])


def kinds_text(saying):
    """How many kinds a saying has, and whether it holds by each."""
    count = len(kinds_of(saying))
    good = "yes" if tried(saying) else "no"
    return f"{count} {good}"
