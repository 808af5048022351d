"""Trees of rooms, and what holds in them."""

from selfsay.errors import NoTree
from selfsay.numbering import full_mask, mask_built, numbered, truths_of

LETTERS = ("p", "q", "r")
MARKS = ("", "p", "q", "r", "pq", "pr", "qr", "pqr")


class Tree:
    """A tree told by its rooms, tuples (below, marks)."""

    def __init__(self, rooms):
        refuse_wrong(rooms)
        self.told = list(rooms)
        self.full = full_mask(len(rooms))
        self.uppers = upper_masks(rooms)
        self.tops = heights_of(rooms)
        self.marked = marked_masks(rooms)

    def rooms(self):
        """The rooms as they were told."""
        return list(self.told)

    def above(self, room):
        """The sorted list of the rooms further up."""
        return [k for k in range(len(self.told)) if (self.uppers[room] >> k) & 1]

    def height(self, room):
        """How many rooms more a walk up from the room comes to at most."""
        return self.tops[room]

    def holds(self, saying):
        """Whether the saying holds, for each room in the order of their numbers."""
        return truths_of(self.mask(saying), len(self.told))

    def worth(self, saying, room):
        """Whether the saying holds in the room."""
        return (self.mask(saying) >> room) & 1 == 1

    def mask(self, saying):
        """The mask of the rooms in which the saying holds."""
        masks = []
        for form in numbered(saying).forms:
            masks.append(self.mask_of_form(form, masks))
        return masks[-1]

    def mask_of_form(self, form, masks):
        """The mask of a form's saying, those of what it is built of being there."""
        if form[0] == "letter":
            return self.marked[form[1]]
        if form[0] == "shown":
            return self.shown_mask(masks[form[1]], list(range(len(self.told))))
        return mask_built(form, masks, self.full)

    def shown_mask(self, mask, rooms):
        """The mask of those of the rooms that have none further up outside of the mask."""
        outside = self.full ^ mask
        return sum([1 << room for room in rooms if self.uppers[room] & outside == 0])

    def levels(self):
        """For each height, from 0 on, the list of the rooms of it."""
        found = [[] for height in range(max(self.tops) + 1)]
        for room, height in enumerate(self.tops):
            found[height].append(room)
        return found


class Chain(Tree):
    """A tree told by marks, each room but the first standing on the one ahead."""

    def __init__(self, marks):
        Tree.__init__(self, [(k - 1, each) for k, each in enumerate(marks)])


def refuse_wrong(rooms):
    """Refuse a list that tells no tree."""
    if len(rooms) == 0:
        raise NoTree(0)
    for number, room in enumerate(rooms):
        if not is_room(room, number):
            raise NoTree(number)


def is_room(room, number):
    """Whether the room of this number may be so."""
    if not isinstance(room, tuple) or len(room) != 2:
        return False
    return may_stand_on(number, room[0]) and room[1] in MARKS


def may_stand_on(number, below):
    """Whether the room of this number may stand on the one below."""
    if isinstance(below, bool) or not isinstance(below, int):
        return False
    if number == 0:
        return below == -1
    return 0 <= below < number


def upper_masks(rooms):
    """For each room the mask of the rooms further up."""
    masks = [0] * len(rooms)
    # A room stands on an earlier one, so from the last room down each mask is whole when it is handed on.
    for number in range(len(rooms) - 1, 0, -1):
        below = rooms[number][0]
        masks[below] = masks[below] | masks[number] | (1 << number)
    return masks


def heights_of(rooms):
    """For each room its height."""
    heights = [0] * len(rooms)
    for number in range(len(rooms) - 1, 0, -1):
        below = rooms[number][0]
        heights[below] = max(heights[below], heights[number] + 1)
    return heights


def marked_masks(rooms):
    """For each letter the mask of the rooms that are marked with it."""
    masks = {}
    for letter in LETTERS:
        masks[letter] = sum([1 << k for k, room in enumerate(rooms) if letter in room[1]])
    return masks
