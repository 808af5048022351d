"""Kinds of rooms: which truths the letters and shown parts of a saying can have together."""

from selfsay.numbering import Numbering, mask_built, numbered, sorted_numbers
from selfsay.sayings import letters_of, shown_parts
from selfsay.searching import Kinds

MOST_SHOWN = 5


def things_of(saying):
    """The letters of a saying, sorted, and behind them its unlike shown parts, sorted."""
    return letters_of(saying) + shown_parts(saying)


def kinds_of(saying):
    """The sorted list of the kinds of a saying, each a tuple of truths for its things."""
    kinds = found_kinds(saying)
    count = len(kinds.letters) + len(kinds.shown)
    return [truths_in(kind, count) for kind in range(1 << count) if (kinds.possible >> kind) & 1]


def found_kinds(saying):
    """The kinds of rooms that there can be for a saying."""
    forms = numbered(saying).forms
    return Kinds(forms, sorted_numbers(forms), MOST_SHOWN)


def truths_in(kind, count):
    """The tuple of the truths of so many things in a kind."""
    return tuple([(kind >> place) & 1 == 1 for place in range(count - 1, -1, -1)])


def by_kind(saying, things, kind):
    """Whether the saying holds by a kind of these things."""
    numbering = Numbering()
    whole = numbering.number(saying)
    truths = {}
    for thing, truth in zip(things, kind):
        part = ("letter", thing) if isinstance(thing, str) else thing
        truths[numbering.number(part)] = 1 if truth else 0
    masks = []
    for number, form in enumerate(numbering.forms):
        if number in truths or form[0] in ("letter", "shown"):
            # What is not among the things stands within a shown part, and nothing hangs on it.
            masks.append(truths.get(number, 0))
        else:
            masks.append(mask_built(form, masks, 1))
    return masks[whole] == 1


def tried(saying):
    """Whether the saying holds by each of its kinds."""
    kinds = found_kinds(saying)
    return kinds.possible & ~kinds.masks[-1] == 0
