"""What sayings are built of, and putting sayings for letters."""

from selfsay.numbering import inner_of, numbered, sorted_numbers


def yes():
    """The saying that always holds."""
    return ("not", ("no",))


def size_of(saying):
    """The number of the parts, each counted as often as it stands."""
    return numbered(saying).sizes[-1]


def depth_of(saying):
    """The greatest number of shown parts that stand within one another."""
    return depth_by_forms(numbered(saying).forms)


def depth_by_forms(forms):
    """The depth of the last form's saying."""
    depths = []
    for form in forms:
        inner = max([depths[k] for k in inner_of(form)], default=0)
        depths.append(inner + 1 if form[0] == "shown" else inner)
    return depths[-1]


def parts_of(saying):
    """The sorted list of the unlike parts."""
    numbering = numbered(saying)
    return [numbering.sayings[k] for k in sorted_numbers(numbering.forms)]


def shown_parts(saying):
    """The sorted list of the unlike shown parts."""
    return [part for part in parts_of(saying) if part[0] == "shown"]


def letters_of(saying):
    """The sorted list of the letters, each once, as texts."""
    return letters_by_forms(numbered(saying).forms)


def letters_by_forms(forms):
    """The sorted list of the letters among the forms."""
    return sorted([form[1] for form in forms if form[0] == "letter"])


def put(saying, sayings):
    """The saying with the sayings of the dict put for its letters, all at once."""
    numbering = numbered(saying)
    results = []
    changed = []
    for form, part in zip(numbering.forms, numbering.sayings):
        changed.append(is_changed(form, changed, sayings))
        # What stays the same stays the very saying: a great one is found again by that alone.
        results.append(rebuilt(form, results, sayings) if changed[-1] else part)
    return results[-1]


def is_changed(form, changed, sayings):
    """Whether a form's saying is another one when the sayings are put."""
    if form[0] == "letter":
        return sayings.get(form[1], form) != form
    return any([changed[k] for k in inner_of(form)])


def rebuilt(form, results, sayings):
    """The result for a form, those for what it is built of being there."""
    if form[0] == "letter":
        return sayings.get(form[1], form)
    return (form[0],) + tuple([results[k] for k in inner_of(form)])
