"""The search: a showing of a claim, or a tree in whose first room it fails.

First the kinds of rooms that there can be for the claim's parts are found. Where the claim fails in none of
them it has a showing, and so has each claim that it needs by "left" and "right"; so nothing is tried in vain.
"""

from selfsay.claims import gone_up, may_open, needed_sides, numbers_of, told_side
from selfsay.errors import TooMany
from selfsay.numbering import Numbering, full_mask, mask_built, places_of, sorted_numbers

MOST_PARTS = 40
MOST_SHOWN = 6


class Kinds:
    """The kinds of rooms that there can be for the sayings of the forms, whose numbers in order are told.

    A kind is a whole number with a bit for each thing, the letters and then the shown sayings, the last
    thing's bit being the lowest. In a mask of kinds the bit of each kind's number is 1 or 0.
    """

    def __init__(self, forms, order, most_shown):
        self.forms = forms
        self.letters = [number for number in order if forms[number][0] == "letter"]
        self.shown = [number for number in order if forms[number][0] == "shown"]
        if len(self.shown) > most_shown:
            raise TooMany()
        self.masks = kind_masks(forms, self.letters + self.shown)
        self.possible = 0
        # What a kind needs further up has more shown sayings that hold, so it was found before.
        for held in range((1 << len(self.shown)) - 1, -1, -1):
            if all([self.failing(self.up_from(held, number)) for number in self.open_in(held)]):
                self.possible |= sum([1 << kind for kind in self.like(held)])

    def like(self, held):
        """The kinds in which just the same shown sayings hold."""
        count = len(self.shown)
        return [(letters << count) | held for letters in range(1 << len(self.letters))]

    def open_in(self, kind):
        """The numbers of the shown sayings that fail in the kind."""
        count = len(self.shown)
        return [number for place, number in enumerate(self.shown) if not (kind >> (count - 1 - place)) & 1]

    def up_from(self, kind, number):
        """What fails in some room further up where the numbered shown saying fails in a room of the kind."""
        open_ones = self.open_in(kind)
        return gone_up([each for each in self.shown if each not in open_ones], number, self.forms)

    def failing(self, sides):
        """The mask of the kinds in which the claim of the sides fails."""
        mask = self.possible
        for number in sides[0]:
            mask &= self.masks[number]
        for number in sides[1]:
            mask &= ~self.masks[number]
        return mask

    def covers(self, kind, number):
        """Whether what the numbered shown saying says fails in a room of the kind or further up."""
        fully = self.masks[number] & self.masks[self.forms[number][1]]
        return not (fully >> kind) & 1

    def best_of(self, mask, wanted):
        """Of the kinds in a mask one that covers the most of the wanted shown sayings, and holds the most others."""
        return max([kind for kind in range(mask.bit_length()) if (mask >> kind) & 1],
                   key=lambda kind: (len([number for number in wanted if self.covers(kind, number)]),
                                     0 - len(self.open_in(kind))))

    def next_up(self, kind):
        """Kinds of rooms that together make a room, on which such rooms stand, be of the kind."""
        found = []
        wanted = self.open_in(kind)
        while wanted:
            mask = 0
            for number in wanted:
                mask |= self.failing(self.up_from(kind, number))
            chosen = self.best_of(mask, wanted)
            found.append(chosen)
            wanted = [number for number in wanted if not self.covers(chosen, number)]
        return found


def kind_masks(forms, things):
    """For each form the mask of the kinds in which it holds, of all that might be."""
    full = full_mask(1 << len(things))
    masks = []
    for number, form in enumerate(forms):
        if number in things:
            masks.append(thing_mask(things.index(number), len(things)))
        else:
            masks.append(mask_built(form, masks, full))
    return masks


def thing_mask(place, count):
    """The mask of the kinds, of so many things, in which the thing of this place holds."""
    return sum([1 << kind for kind in range(1 << count) if (kind >> (count - 1 - place)) & 1])


def searched(claim):
    """A showing of the claim, or a tree in whose first room it fails."""
    numbering = Numbering()
    sides = (numbers_of(claim[0], numbering), numbers_of(claim[1], numbering))
    forms = numbering.forms
    order = sorted_numbers(forms)
    if len(forms) > MOST_PARTS:
        raise TooMany()
    kinds = Kinds(forms, order, MOST_SHOWN)
    failing = kinds.failing(sides)
    if failing:
        return ("tree", tree_rooms(kinds, kinds.best_of(failing, [])))
    return ("showing", told_steps(found_steps(as_claim(sides), kinds, numbering.sizes), numbering, order))


def tree_rooms(kinds, first):
    """The rooms of a tree whose first room is of this kind."""
    rooms = [(-1, first)]
    place = 0
    while place < len(rooms):
        rooms.extend([(place, kind) for kind in kinds.next_up(rooms[place][1])])
        place += 1
    return [(room[0], marks_of(kinds, room[1])) for room in rooms]


def marks_of(kinds, kind):
    """The marks of a room of the kind."""
    return "".join([kinds.forms[number][1] for number in kinds.letters if (kinds.masks[number] >> kind) & 1])


def as_claim(sides):
    """The claim of the sides as tuples of rising numbers."""
    return (tuple(sorted(set(sides[0]))), tuple(sorted(set(sides[1]))))


def found_steps(claim, kinds, sizes):
    """The steps of a showing of a claim that fails in no kind, with numbers for the sayings."""
    moves = {}
    numbers = {}
    steps = []
    waiting = [claim]
    while waiting:
        each = waiting.pop()
        if each not in moves:
            moves[each] = move_for(each, kinds, sizes)
        needs = moves[each][2]
        missing = [need for need in needs if need not in numbers]
        if missing:
            waiting.append(each)
            waiting.extend(missing)
        elif each not in numbers:
            numbers[each] = len(steps)
            steps.append((each[0], each[1], moves[each][0], moves[each][1], [numbers[need] for need in needs]))
    return steps


def move_for(claim, kinds, sizes):
    """A rule and a number by which the claim needs claims that fail in no kind, and these claims."""
    left = list(claim[0])
    right = list(claim[1])
    move = ended(left, right, kinds) or gone_on(left, right, kinds, sizes)
    needs = needed_sides(left, right, move[0], move[1], kinds.forms)
    return (move[0], move[1], [as_claim(need) for need in needs])


def ended(left, right, kinds):
    """The rule and number by which nothing is needed, or but one claim further up; None where there is none."""
    for number in left:
        if number in right:
            return ("same", number)
        if kinds.forms[number][0] == "no":
            return ("never", number)
    for number in right:
        if kinds.forms[number][0] == "shown" and not kinds.failing(gone_up(left, number, kinds.forms)):
            return ("up", number)
    return None


def gone_on(left, right, kinds, sizes):
    """The rule and number of a saying to open, of those without which the claim would fail somewhere."""
    opened = [("left", number) for number in left if may_open(kinds.forms[number])]
    opened.extend([("right", number) for number in right if may_open(kinds.forms[number])])
    kept_left = left
    kept_right = right
    needed_moves = []
    # Great ones are left out first where they can be: to open them takes the most steps.
    for move in sorted(opened, key=lambda each: 0 - sizes[each[1]]):
        less_left = [number for number in kept_left if move != ("left", number)]
        less_right = [number for number in kept_right if move != ("right", number)]
        if kinds.failing((less_left, less_right)):
            needed_moves.append(move)
        else:
            kept_left = less_left
            kept_right = less_right
    return min(needed_moves, key=lambda each: count_needed(each, kinds.forms))


def count_needed(move, forms):
    """How many claims are needed by the move."""
    return len(needed_sides([move[1]], [move[1]], move[0], move[1], forms))


def told_steps(steps, numbering, order):
    """The steps with their sayings."""
    places = places_of(order)
    ordered = [numbering.sayings[number] for number in order]
    return [(told_side(step[0], places, ordered), told_side(step[1], places, ordered), step[2],
             numbering.sayings[step[3]], step[4]) for step in steps]
