"""What sayings are built of, and putting sayings for letters."""

from selfsay.numbering import inner_of, numbered, sorted_numbers

SMALL_SIZE = 250


def yes():
    """The saying that always holds."""
    return ("not", ("no",))


def size_of(saying):
    """The number of the parts, each counted as often as it stands."""
    return numbered(saying).sizes[-1]


def depth_of(saying):
    """The greatest number of shown parts that stand within one another."""
    return depth_by_forms(numbered(saying).forms)


def depth_by_forms(forms):
    """The depth of the last form's saying."""
    depths = []
    for form in forms:
        inner = max([depths[k] for k in inner_of(form)], default=0)
        depths.append(inner + 1 if form[0] == "shown" else inner)
    return depths[-1]


def parts_of(saying):
    """The sorted list of the unlike parts."""
    numbering = numbered(saying)
    return [numbering.sayings[k] for k in sorted_numbers(numbering.forms)]


def shown_parts(saying):
    """The sorted list of the unlike shown parts."""
    return [part for part in parts_of(saying) if part[0] == "shown"]


def letters_of(saying):
    """The sorted list of the letters, each once, as texts."""
    return letters_by_forms(numbered(saying).forms)


def letters_by_forms(forms):
    """The sorted list of the letters among the forms."""
    return sorted([form[1] for form in forms if form[0] == "letter"])


def put(saying, sayings):
    """The saying with the sayings of the dict put for its letters, all at once."""
    numbering = numbered(saying)
    instead = {}
    for number, form in enumerate(numbering.forms):
        if form[0] == "letter" and form[1] in sayings:
            instead[number] = sayings[form[1]]
    return put_for_numbers(numbering, len(numbering.forms) - 1, instead, False)


def put_for_numbers(numbering, whole, instead, shown_stays):
    """The saying numbered whole, with those of the dict put for the numbers that it names.

    Where shown_stays, nothing is put within a shown saying that stays. What is not changed, and what is put
    in, stays the very saying: a great one is known again by that alone.
    """
    results = []
    for number, form in enumerate(numbering.forms[:whole + 1]):
        inner = tuple([results[k] for k in inner_of(form)])
        if number in instead:
            results.append(number_put(numbering, number, instead[number]))
        elif not inner or (shown_stays and form[0] == "shown"):
            results.append(number)
        else:
            saying = (form[0],) + tuple([numbering.sayings[k] for k in inner])
            results.append(numbering.number_form((form[0],) + inner, saying))
    return numbering.sayings[results[whole]]


def number_put(numbering, number, saying):
    """A number for a saying that is put for the numbered one."""
    if is_small(saying):
        return numbering.number(saying)
    # A great one is not looked into: it takes the place of a leaf, of a form that no saying has.
    return numbering.number_form(("letter", number), saying)


def is_small(saying):
    """Whether a saying is so small that it is soon walked."""
    waiting = [saying]
    count = 0
    while waiting and count < SMALL_SIZE:
        waiting.extend(inner_of(waiting.pop()))
        count += 1
    return not waiting
