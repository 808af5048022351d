"""Numbers for unlike sayings.

What put has told may be thousands of parts deep, and may hold one part in more places than can be
walked. So no function here calls itself, and each unlike part is worked on once.
"""

LEAVES = ("no", "letter")

# Walking so small a saying again costs less than knowing it again.
TINY_SIZE = 8

# Python compares tuples by recursion: higher sayings are compared only where they seem to be the same.
LOW_HEIGHT = 400

# The asker may have joined sayings that were told apart, and to compare equal ones can take as long as to walk
# them. So what stands at the other side of a join, none, one, two .. joins below what is handed in, is known
# apart from what was met before, as long as the work of that was no more than this.
APART = (10 ** 9, 6 * 10 ** 7, 2 * 10 ** 7, 5 * 10 ** 6, 5 * 10 ** 5, 10 ** 5, 2 * 10 ** 4)


def inner_of(saying):
    """The sayings that a saying is built of, as they stand; of a form their numbers."""
    return [] if saying[0] in LEAVES else list(saying[1:])


def way_down(saying, place):
    """How many steps it is down a saying, to the first place (1) or the last (-1) of each, and to which leaf."""
    steps = 0
    while saying[0] not in LEAVES:
        saying = saying[place]
        steps += 1
    return (steps, saying)


def one_step_more(way):
    """The way of a saying, that of the inner one which it goes to being told."""
    return (way[0] + 1, way[1])


class Numbering:
    """Unlike sayings, numbered from 0 on, each behind the sayings that it is built of.

    The form of a saying is the saying with numbers in the place of those that it is built of. Of like
    sayings the one that was met first is kept.
    """

    def __init__(self):
        self.sayings = []
        self.forms = []
        self.numbers = {}
        self.sizes = []
        self.heights = []
        self.firsts = []
        self.lasts = []
        self.highest = []
        self.strays = []
        self.met = {}
        self.looks = {}
        self.came_again = {}
        self.home = 0
        self.work = 0

    def number(self, saying):
        """The number of a saying; it and its parts are numbered where they are not yet."""
        return self.number_within(saying, len(APART), self.work + 10 ** 60)

    def number_within(self, saying, apart_joins, most_work):
        """The number of a saying, or -1 where the work would come to more.

        What waits for its inner sayings waits with the number of the first of them (-1 as long as there
        is none), its way down to the first place, the number of joins above, and the home it began in.
        """
        self.begin_apart()
        waiting = []
        part = saying
        joins = 0
        way = way_down(part, 1)
        while part is not None:
            found = self.number_known(part, way)
            while found < 0:
                waiting.append((part, -1, way, joins, self.home))
                joins += len(part) - 2
                part = part[1]
                way = (way[0] - 1, way[1])
                found = self.number_known(part, way)
            part = None
            while waiting and part is None and self.work <= most_work:
                outer = waiting.pop()
                if len(outer[0]) == 3 and outer[1] < 0:
                    waiting.append((outer[0], found, outer[2], outer[3], outer[4]))
                    part = outer[0][2]
                    way = way_down(part, 1)
                    joins = outer[3] + 1
                    self.work += 20 + way[0]
                    if outer[3] < apart_joins and self.work <= APART[outer[3]]:
                        self.begin_apart()
                else:
                    found = self.number_outer(outer, found)
        return -1 if waiting else found

    def begin_apart(self):
        """From here on nothing is known again of what was met before."""
        self.home += 1
        self.met = {}
        self.looks = {}

    def number_outer(self, outer, found):
        """The number of what waited for the last of its inner sayings, the one found."""
        part = outer[0]
        inner = (found,) if outer[1] < 0 else (outer[1], found)
        number = self.number_form((part[0],) + inner, part)
        self.work += 20
        if self.sizes[number] > TINY_SIZE and outer[4] == self.home:
            if number not in self.met:
                self.looks.setdefault(look_of(part, outer[2]), []).append(number)
            self.met[number] = part
        return number

    def number_known(self, part, way):
        """The number of a leaf, or of what was met; else -1."""
        if part[0] in LEAVES:
            return self.number_form(part, part)
        found = self.looks.get(look_of(part, way), [])
        place = self.place_known(part, way, found) if found else -1
        if place < 0:
            return -1
        number = found[place]
        if place < len(found) - 1:
            found.append(found.pop(place))
        self.met[number] = part
        self.came_again[number] = True
        return number

    def place_known(self, part, way, found):
        """The place of a saying's number among those found by its look, the last one being the likeliest; else -1."""
        last = way_down(part, -1)
        # Where there are several, the ways from the one side down to the other tell most of them apart.
        turns = (way_down(part[-1], 1), way_down(part[1], -1)) if len(found) > 1 else None
        self.work += 20 + last[0]
        for place in range(len(found) - 1, -1, -1):
            number = found[place]
            fits = self.lasts[number] == last and (turns is None or turns == self.turns_of(number))
            # A list finds the very same saying at once, however great that is.
            if fits and self.may_be(part, number, way) and part in [self.met[number]]:
                return place
        return -1

    def turns_of(self, number):
        """The ways of the numbered saying that go to the last place and then to the first, and the other way round."""
        form = self.forms[number]
        return (self.firsts[form[-1]], self.lasts[form[1]])

    def may_be(self, saying, number, way):
        """Whether a saying is to be compared with the numbered one, the ways to first and last being alike."""
        height = self.heights[number]
        if height <= LOW_HEIGHT:
            return True
        if height not in (way[0], self.lasts[number][0]) and not self.goes_along(saying, number, self.highest):
            return False
        return number in self.came_again or self.goes_along(saying, number, self.strays)

    def goes_along(self, saying, number, places):
        """Whether a saying is like the numbered one along a way down to where this is low."""
        self.work += self.heights[number]
        heights = self.heights
        forms = self.forms
        while heights[number] > LOW_HEIGHT:
            form = forms[number]
            if saying[0] != form[0]:
                return False
            place = places[number]
            saying = saying[place]
            number = form[place]
        return number not in self.met or saying in [self.met[number]]

    def number_form(self, form, saying):
        """The number of a form, and of its saying where that comes for the first time."""
        if form in self.numbers:
            return self.numbers[form]
        number = len(self.forms)
        inner = inner_of(form)
        heights = [self.heights[k] for k in inner]
        self.numbers[form] = number
        self.forms.append(form)
        self.sayings.append(saying)
        self.sizes.append(1 + sum([self.sizes[k] for k in inner]))
        self.heights.append(max(heights, default=-1) + 1)
        self.firsts.append(one_step_more(self.firsts[inner[0]]) if inner else (0, form))
        self.lasts.append(one_step_more(self.lasts[inner[-1]]) if inner else (0, form))
        self.highest.append(2 if heights[1:] > heights[:1] else 1)
        # Where both sides of a join are high, now the one is followed and now the other.
        by_chance = len(inner) == 2 and min(heights) > LOW_HEIGHT
        self.strays.append(1 + (number * 40503 >> 7) % 2 if by_chance else self.highest[number])
        return number


def look_of(part, way):
    """What sayings that are met again are looked for by."""
    return (part[0], part[1][0], part[-1][0], way)


def numbered(saying):
    """The numbering of a saying and its parts; the saying itself comes last."""
    numbering = Numbering()
    numbering.number(saying)
    return numbering


def mask_built(form, masks, full):
    """The mask of a form of no, not, and, or, if, the masks of what it is built of being there.

    A mask is a whole number with a bit for each place that is asked of (a room, a height), 1 where
    the saying holds; in full all bits are 1.
    """
    word = form[0]
    if word == "no":
        return 0
    if word == "not":
        return full ^ masks[form[1]]
    if word == "and":
        return masks[form[1]] & masks[form[2]]
    if word == "or":
        return masks[form[1]] | masks[form[2]]
    return (full ^ masks[form[1]]) | masks[form[2]]


def full_mask(count):
    """The mask of a saying that holds in each of the places."""
    return (1 << count) - 1


def truths_of(mask, count):
    """A truth for each of the places of a mask."""
    return [(mask >> place) & 1 == 1 for place in range(count)]


def sorted_numbers(forms):
    """The numbers of the forms, in the order of their sayings.

    Each form is put among the earlier ones. These have ranks that rise in their order, so that two
    sayings are compared by the ranks of what they are built of, however deep they are.
    """
    order = []
    ranks = []
    for number, form in enumerate(forms):
        spot = spot_of(ranked(form, ranks), order, forms, ranks)
        rank = rank_at(spot, order, ranks)
        crowded = spot > 0 and rank == ranks[order[spot - 1]]
        order.insert(spot, number)
        ranks.append(rank)
        if crowded:
            ranks = spread(order)
    return order


def places_of(order):
    """For each number its place in the order."""
    places = [0] * len(order)
    for place, number in enumerate(order):
        places[number] = place
    return places


def ranked(form, ranks):
    """A tuple that compares as the form's saying does."""
    inner = inner_of(form)
    if not inner:
        return form
    return (form[0],) + tuple([ranks[k] for k in inner])


def spot_of(key, order, forms, ranks):
    """How many of the numbers in order belong ahead of the key."""
    low = 0
    high = len(order)
    while low < high:
        middle = (low + high) // 2
        if ranked(forms[order[middle]], ranks) < key:
            low = middle + 1
        else:
            high = middle
    return low


def gap():
    """How far apart ranks are set, so that many fit in between."""
    return 10 ** 60


def rank_at(spot, order, ranks):
    """A rank for what comes to the spot; where no more fits in between it is that of the one ahead."""
    if not order:
        return 0
    if spot == 0:
        return ranks[order[0]] - gap()
    if spot == len(order):
        return ranks[order[-1]] + gap()
    return (ranks[order[spot - 1]] + ranks[order[spot]]) // 2


def spread(order):
    """New ranks for the numbers in order, with wide gaps again."""
    return [place * gap() for place in places_of(order)]
