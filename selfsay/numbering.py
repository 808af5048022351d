"""Numbers for unlike sayings.

What put has told may be thousands of parts deep, and may hold one part in more places than can be
walked. So no function here calls itself, and each unlike part is worked on once.
"""

# Python compares tuples by recursion, as deep as the lower of the two: none higher than this is compared.
LOW_HEIGHT = 400

# Walking a smaller saying again costs less than looking for it among those that are kept.
GREAT_SIZE = 1000


def inner_of(saying):
    """The sayings that a saying is built of, as they stand; of a form their numbers."""
    return [] if saying[0] in ("no", "letter") else list(saying[1:])


class Numbering:
    """Unlike sayings, numbered from 0 on, each behind the sayings that it is built of.

    The form of a saying is the saying with numbers in the place of those that it is built of.
    """

    def __init__(self):
        self.sayings = []
        self.forms = []
        self.numbers = {}
        self.sizes = []
        self.heights = []
        self.kept = []
        self.kept_numbers = []

    def number(self, saying):
        """The number of a saying; it and its parts are numbered where they are not yet."""
        pending = [(saying, False)]
        found = []
        while pending:
            visit = pending.pop()
            part = visit[0]
            inner_done = visit[1]
            if inner_done:
                numbers = [found.pop() for inner in inner_of(part)]
                found.append(self.number_built(part, numbers))
            elif part in self.kept:
                found.append(self.kept_numbers[self.kept.index(part)])
            else:
                pending.append((part, True))
                pending.extend([(inner, False) for inner in inner_of(part)])
        return found.pop()

    def number_built(self, saying, inner):
        """The number of a saying that is built of the sayings with the inner numbers."""
        form = ((saying[0],) + tuple(inner)) if inner else saying
        if form not in self.numbers:
            self.numbers[form] = len(self.forms)
            self.forms.append(form)
            self.sayings.append(saying)
            self.sizes.append(1 + sum([self.sizes[k] for k in inner]))
            self.heights.append(max([self.heights[k] + 1 for k in inner], default=0))
            self.keep_great(self.numbers[form])
        return self.numbers[form]

    def keep_great(self, number):
        """Keep a saying that would be dear to walk again, where it may be compared."""
        if self.sizes[number] >= GREAT_SIZE and self.heights[number] <= LOW_HEIGHT:
            self.kept.append(self.sayings[number])
            self.kept_numbers.append(number)


def numbered(saying):
    """The numbering of a saying and its parts; the saying itself comes last."""
    numbering = Numbering()
    numbering.number(saying)
    return numbering


def mask_built(form, masks, full):
    """The mask of a form of no, not, and, or, if, the masks of what it is built of being there.

    A mask is a whole number with a bit for each place that is asked of (a room, a height), 1 where
    the saying holds; in full all bits are 1.
    """
    word = form[0]
    if word == "no":
        return 0
    if word == "not":
        return full ^ masks[form[1]]
    if word == "and":
        return masks[form[1]] & masks[form[2]]
    if word == "or":
        return masks[form[1]] | masks[form[2]]
    return (full ^ masks[form[1]]) | masks[form[2]]


def full_mask(count):
    """The mask of a saying that holds in each of the places."""
    return (1 << count) - 1


def truths_of(mask, count):
    """A truth for each of the places of a mask."""
    return [(mask >> place) & 1 == 1 for place in range(count)]


def sorted_numbers(forms):
    """The numbers of the forms, in the order of their sayings.

    Each form is put among the earlier ones. These have ranks that rise in their order, so that two
    sayings are compared by the ranks of what they are built of, however deep they are.
    """
    order = []
    ranks = []
    for number, form in enumerate(forms):
        spot = spot_of(ranked(form, ranks), order, forms, ranks)
        rank = rank_at(spot, order, ranks)
        crowded = spot > 0 and rank == ranks[order[spot - 1]]
        order.insert(spot, number)
        ranks.append(rank)
        if crowded:
            ranks = spread(order)
    return order


def ranked(form, ranks):
    """A tuple that compares as the form's saying does."""
    inner = inner_of(form)
    if not inner:
        return form
    return (form[0],) + tuple([ranks[k] for k in inner])


def spot_of(key, order, forms, ranks):
    """How many of the numbers in order belong ahead of the key."""
    low = 0
    high = len(order)
    while low < high:
        middle = (low + high) // 2
        if ranked(forms[order[middle]], ranks) < key:
            low = middle + 1
        else:
            high = middle
    return low


def gap():
    """How far apart ranks are set, so that many fit in between."""
    return 10 ** 60


def rank_at(spot, order, ranks):
    """A rank for what comes to the spot; where no more fits in between it is that of the one ahead."""
    if not order:
        return 0
    if spot == 0:
        return ranks[order[0]] - gap()
    if spot == len(order):
        return ranks[order[-1]] + gap()
    return (ranks[order[spot - 1]] + ranks[order[spot]]) // 2


def spread(order):
    """New ranks for the numbers in order, with wide gaps again."""
    ranks = [0] * len(order)
    for place, number in enumerate(order):
        ranks[number] = place * gap()
    return ranks
