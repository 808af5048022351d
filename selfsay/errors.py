"""The refusals."""


class SayError(ValueError):
    """Any refusal."""


class NoSaying(SayError):
    """A text is no saying's: place is the first place whose sign can't stand there."""

    def __init__(self, place):
        self.place = place


class NoTree(SayError):
    """A list of rooms is no tree: room is the number of the first room that is not so."""

    def __init__(self, room):
        self.room = room


class HasLetter(SayError):
    """A saying with letters has no row: letter is the first of them."""

    def __init__(self, letter):
        self.letter = letter


class TooMany(SayError):
    """What is asked has more parts than are looked at."""


class NoRule(SayError):
    """A rule's word is none, or the saying doesn't fit it."""


class Outside(SayError):
    """The letter p stands outside of shown."""


class NoLine(SayError):
    """A line is none that a desk answers."""


class Nothing(SayError):
    """A desk keeps no saying yet."""
