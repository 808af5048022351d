"""What sayings are built of, and putting sayings for letters."""

from selfsay.numbering import Numbering, inner_of, numbered, sorted_numbers, way_down

SMALL_SIZE = 250

# More work is not done to find out whether one of the sayings that are put in is a part of another.
MOST_WORK = 200000
MOST_STEPS = 200


def yes():
    """The saying that always holds."""
    return ("not", ("no",))


def size_of(saying):
    """The number of the parts, each counted as often as it stands."""
    return numbered(saying).sizes[-1]


def depth_of(saying):
    """The greatest number of shown parts that stand within one another."""
    return depth_by_forms(numbered(saying).forms)


def depth_by_forms(forms):
    """The depth of the last form's saying."""
    depths = []
    for form in forms:
        inner = max([depths[k] for k in inner_of(form)], default=0)
        depths.append(inner + 1 if form[0] == "shown" else inner)
    return depths[-1]


def parts_of(saying):
    """The sorted list of the unlike parts."""
    numbering = numbered(saying)
    return [numbering.sayings[k] for k in sorted_numbers(numbering.forms)]


def shown_parts(saying):
    """The sorted list of the unlike shown parts."""
    return [part for part in parts_of(saying) if part[0] == "shown"]


def letters_of(saying):
    """The sorted list of the letters, each once, as texts."""
    return letters_by_forms(numbered(saying).forms)


def letters_by_forms(forms):
    """The sorted list of the letters among the forms."""
    return sorted([form[1] for form in forms if form[0] == "letter"])


def put(saying, sayings):
    """The saying with the sayings of the dict put for its letters, all at once."""
    numbering = numbered(saying)
    instead = {}
    for number, form in enumerate(numbering.forms):
        if form[0] == "letter" and form[1] in sayings:
            instead[number] = sayings[form[1]]
    return put_for_numbers(numbering, len(numbering.forms) - 1, instead, False)


def put_for_numbers(numbering, whole, instead, shown_stays):
    """The saying numbered whole, with those of the dict put for the numbers that it names.

    Where shown_stays, nothing is put within a shown saying that stays. What is not changed, and what is put
    in, stays the very saying: a great one is known again by that alone.
    """
    one_for_like = with_shared_parts(instead)
    results = []
    for number, form in enumerate(numbering.forms[:whole + 1]):
        inner = tuple([results[k] for k in inner_of(form)])
        if number in instead:
            results.append(number_put(numbering, number, one_for_like[number]))
        elif not inner or (shown_stays and form[0] == "shown"):
            results.append(number)
        else:
            saying = (form[0],) + tuple([numbering.sayings[k] for k in inner])
            results.append(numbering.number_form((form[0],) + inner, saying))
    return numbering.sayings[results[whole]]


def number_put(numbering, number, saying):
    """A number for a saying that is put for the numbered one."""
    if is_small(saying):
        return numbering.number(saying)
    # A great one is not looked into: it takes the place of a leaf, of a form that no saying has.
    return numbering.number_form(("letter", number), saying)


def with_shared_parts(instead):
    """The dict with those great sayings that are parts of another one of it taken out of that.

    Else a saying could come to hold great parts that were told apart from one another, and are alike.
    """
    great = [number for number in instead if not is_small(instead[number])]
    shared = dict(instead)
    if len(great) < 2 or any([is_high(instead[number]) for number in great]):
        return shared
    numbering = Numbering()
    wholes = {}
    for number in great:
        wholes[number] = numbering.number_within(instead[number], 2, MOST_WORK)
        if wholes[number] < 0:
            return shared
    order = sorted(great, key=lambda each: 0 - numbering.sizes[wholes[each]])
    for place, number in enumerate(order):
        for greater in order[:place]:
            part = part_found(shared[greater], numbering.forms, wholes[greater], wholes[number])
            shared[number] = shared[number] if part is None else part
    return shared


def part_found(saying, forms, whole, wanted):
    """The part numbered wanted, taken out of the saying numbered whole; None where it has no such part."""
    holding = []
    for number, form in enumerate(forms[:whole + 1]):
        holding.append(number == wanted or any([holding[k] for k in inner_of(form)]))
    if not holding[whole]:
        return None
    number = whole
    while number != wanted:
        form = forms[number]
        place = 1 if holding[form[1]] else 2
        saying = saying[place]
        number = form[place]
    return saying


def is_high(saying):
    """Whether it is so far down a saying that the work with it would be too much."""
    return max(way_down(saying, 1)[0], way_down(saying, -1)[0]) > MOST_STEPS


def is_small(saying):
    """Whether a saying is so small that it is soon walked."""
    waiting = [saying]
    count = 0
    while waiting and count < SMALL_SIZE:
        waiting.extend(inner_of(waiting.pop()))
        count += 1
    return not waiting
