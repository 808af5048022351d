"""Numbers for unlike sayings.

What put has told may be thousands of parts deep, and may hold one part in more places than can be
walked. So no function here calls itself, and each unlike part is worked on once.
"""

LEAVES = ("no", "letter")

# Walking a saying of this size again costs less than looking for it among those that were met.
SMALL_SIZE = 250

# Python compares tuples by recursion: higher ones are compared only where they are too great to be walked again.
LOW_HEIGHT = 400
GREAT_SIZE = 20000

# So few steps below the whole saying nothing is compared: equal parts there may have been told separately,
# and to compare these would take as long as to walk them.
SHELL_STEPS = 4

# So few steps below where a saying is walked anew a join may be unlike one that was met and begins as it does.
DOUBTFUL_STEPS = 2

# Ways down a saying, by which a high one is told from another: to the first place or the last, or in turn.
WAYS = ((1, 1), (-1, -1), (1, -1), (-1, 1))


def inner_of(saying):
    """The sayings that a saying is built of, as they stand; of a form their numbers."""
    return [] if saying[0] in LEAVES else list(saying[1:])


class Numbering:
    """Unlike sayings, numbered from 0 on, each behind the sayings that it is built of.

    The form of a saying is the saying with numbers in the place of those that it is built of. Of like
    sayings the one that was met last is kept, since that very one is the likeliest to come again.
    """

    def __init__(self):
        self.sayings = []
        self.forms = []
        self.numbers = {}
        self.sizes = []
        self.heights = []
        self.joins = {}
        self.came_again = []

    def number(self, saying):
        """The number of a saying; it and its parts are numbered where they are not yet.

        What waits for its inner sayings waits with the number of the first of them (-1 as long as there
        is none) and with how many steps it is below where a saying is walked anew.
        """
        waiting = []
        part = saying
        steps = 0
        while part is not None:
            while part[0] not in LEAVES:
                waiting.append((part, -1, steps))
                part = part[1]
                steps += 1
            found = self.number_built(part, ())
            part = None
            while waiting and part is None:
                outer = waiting.pop()
                number = self.number_outer(outer, found, len(waiting))
                if number >= 0:
                    found = number
                else:
                    waiting.append((outer[0], found, outer[2]))
                    part = outer[0][2]
                    steps = 0 if self.sizes[found] > SMALL_SIZE else outer[2] + 1
        return found

    def number_outer(self, outer, found, depth):
        """The number of what waited for the one found, -1 where its second saying has to be numbered."""
        part = outer[0]
        first = outer[1]
        if first >= 0:
            return self.number_built(part, (first, found))
        if len(part) == 2:
            return self.number_built(part, (found,))
        if self.sizes[found] > SMALL_SIZE and depth >= SHELL_STEPS:
            return self.number_met(part, found, outer[2] < DOUBTFUL_STEPS)
        return -1

    def number_met(self, join, first, doubtful):
        """The number of a join whose first saying is numbered, where it was met; else -1."""
        met = self.joins.get((join[0], first), [])
        place = self.place_met(join[2], met, doubtful)
        if place < 0:
            return -1
        number = met[place]
        if place < len(met) - 1:
            met.append(met.pop(place))
        self.sayings[number] = join
        self.came_again[number] = True
        return number

    def place_met(self, saying, met, doubtful):
        """The place of the join, among those met, whose second saying is this one; else -1."""
        for place in range(len(met) - 1, -1, -1):
            second = self.forms[met[place]][2]
            # Of joins that begin alike the one that came again last is the likeliest; the others are in doubt.
            in_doubt = doubtful or place < len(met) - 1 or not self.came_again[met[place]]
            # A list finds the very same saying at once, however great that is.
            if self.may_be(saying, second, in_doubt) and saying in [self.sayings[second]]:
                return place
        return -1

    def may_be(self, saying, number, doubtful):
        """Whether a saying is to be compared with the numbered one."""
        if self.heights[number] <= LOW_HEIGHT:
            return self.sizes[number] > SMALL_SIZE
        if self.sizes[number] <= GREAT_SIZE:
            return False
        return not doubtful or self.goes_along(saying, number)

    def goes_along(self, saying, number):
        """Whether a saying is like the numbered one along each of the ways."""
        for way in WAYS:
            if not self.goes_down(saying, number, way):
                return False
        return True

    def goes_down(self, saying, number, way):
        """Whether a saying is like the numbered one along a way, down to its end."""
        form = self.forms[number]
        word = form[0]
        place = way[0]
        while saying[0] == word and word not in LEAVES:
            saying = saying[place]
            form = self.forms[form[place]]
            word = form[0]
            place = way[0] + way[1] - place
        return saying == form

    def number_built(self, saying, inner):
        """The number of a saying that is built of the sayings with the inner numbers."""
        form = (saying[0],) + inner if inner else saying
        if form in self.numbers:
            self.sayings[self.numbers[form]] = saying
            return self.numbers[form]
        number = len(self.forms)
        self.numbers[form] = number
        self.forms.append(form)
        self.sayings.append(saying)
        self.came_again.append(False)
        self.sizes.append(1 + sum([self.sizes[k] for k in inner]))
        self.heights.append(max([self.heights[k] + 1 for k in inner], default=0))
        if len(inner) == 2:
            self.joins.setdefault((form[0], form[1]), []).append(number)
        return number


def numbered(saying):
    """The numbering of a saying and its parts; the saying itself comes last."""
    numbering = Numbering()
    numbering.number(saying)
    return numbering


def mask_built(form, masks, full):
    """The mask of a form of no, not, and, or, if, the masks of what it is built of being there.

    A mask is a whole number with a bit for each place that is asked of (a room, a height), 1 where
    the saying holds; in full all bits are 1.
    """
    word = form[0]
    if word == "no":
        return 0
    if word == "not":
        return full ^ masks[form[1]]
    if word == "and":
        return masks[form[1]] & masks[form[2]]
    if word == "or":
        return masks[form[1]] | masks[form[2]]
    return (full ^ masks[form[1]]) | masks[form[2]]


def full_mask(count):
    """The mask of a saying that holds in each of the places."""
    return (1 << count) - 1


def truths_of(mask, count):
    """A truth for each of the places of a mask."""
    return [(mask >> place) & 1 == 1 for place in range(count)]


def sorted_numbers(forms):
    """The numbers of the forms, in the order of their sayings.

    Each form is put among the earlier ones. These have ranks that rise in their order, so that two
    sayings are compared by the ranks of what they are built of, however deep they are.
    """
    order = []
    ranks = []
    for number, form in enumerate(forms):
        spot = spot_of(ranked(form, ranks), order, forms, ranks)
        rank = rank_at(spot, order, ranks)
        crowded = spot > 0 and rank == ranks[order[spot - 1]]
        order.insert(spot, number)
        ranks.append(rank)
        if crowded:
            ranks = spread(order)
    return order


def places_of(order):
    """For each number its place in the order."""
    places = [0] * len(order)
    for place, number in enumerate(order):
        places[number] = place
    return places


def ranked(form, ranks):
    """A tuple that compares as the form's saying does."""
    inner = inner_of(form)
    if not inner:
        return form
    return (form[0],) + tuple([ranks[k] for k in inner])


def spot_of(key, order, forms, ranks):
    """How many of the numbers in order belong ahead of the key."""
    low = 0
    high = len(order)
    while low < high:
        middle = (low + high) // 2
        if ranked(forms[order[middle]], ranks) < key:
            low = middle + 1
        else:
            high = middle
    return low


def gap():
    """How far apart ranks are set, so that many fit in between."""
    return 10 ** 60


def rank_at(spot, order, ranks):
    """A rank for what comes to the spot; where no more fits in between it is that of the one ahead."""
    if not order:
        return 0
    if spot == 0:
        return ranks[order[0]] - gap()
    if spot == len(order):
        return ranks[order[-1]] + gap()
    return (ranks[order[spot - 1]] + ranks[order[spot]]) // 2


def spread(order):
    """New ranks for the numbers in order, with wide gaps again."""
    return [place * gap() for place in places_of(order)]
