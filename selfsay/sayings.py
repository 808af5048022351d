"""What sayings are built of, and putting sayings for letters."""

from selfsay.numbering import inner_of, numbered, sorted_numbers


def yes():
    """The saying that always holds."""
    return ("not", ("no",))


def size_of(saying):
    """The number of the parts, each counted as often as it stands."""
    return numbered(saying).sizes[-1]


def depth_of(saying):
    """The greatest number of shown parts that stand within one another."""
    return depth_by_forms(numbered(saying).forms)


def depth_by_forms(forms):
    """The depth of the last form's saying."""
    depths = []
    for form in forms:
        inner = max([depths[k] for k in inner_of(form)], default=0)
        depths.append(inner + 1 if form[0] == "shown" else inner)
    return depths[-1]


def parts_of(saying):
    """The sorted list of the unlike parts."""
    numbering = numbered(saying)
    return [numbering.sayings[k] for k in sorted_numbers(numbering.forms)]


def shown_parts(saying):
    """The sorted list of the unlike shown parts."""
    return [part for part in parts_of(saying) if part[0] == "shown"]


def letters_of(saying):
    """The sorted list of the letters, each once, as texts."""
    return letters_by_forms(numbered(saying).forms)


def letters_by_forms(forms):
    """The sorted list of the letters among the forms."""
    return sorted([form[1] for form in forms if form[0] == "letter"])


def put(saying, sayings):
    """The saying with the sayings of the dict put for its letters, all at once."""
    numbering = numbered(saying)
    instead = {}
    for number, form in enumerate(numbering.forms):
        if form[0] == "letter" and form[1] in sayings:
            instead[number] = sayings[form[1]]
    return put_for_numbers(numbering, instead)[-1]


def put_for_numbers(numbering, instead):
    """The numbered sayings with those of the dict put for the numbers that it names."""
    results = []
    changed = []
    for number, form in enumerate(numbering.forms):
        inner = inner_of(form)
        part = numbering.sayings[number]
        if number in instead:
            results.append(instead[number])
            changed.append(instead[number] != part)
        elif any([changed[k] for k in inner]):
            results.append((form[0],) + tuple([results[k] for k in inner]))
            changed.append(True)
        else:
            # What stays the same stays the very saying: a great one is found again by that alone.
            results.append(part)
            changed.append(False)
    return results
