"""Sayings that speak of themselves: the letter p stands in them nowhere but within shown."""

from selfsay.errors import Outside, TooMany
from selfsay.numbering import inner_of, mask_built, numbered, sorted_numbers, truths_of
from selfsay.sayings import put, put_for_numbers, size_of, yes

MOST_SIZE = 10
MOST_OUTER = 2


def outer_parts(saying):
    """The sorted list of the shown parts with p that stand somewhere within no other shown part."""
    numbering = numbered(saying)
    outer = outer_flags(numbering.forms)
    return [numbering.sayings[number] for number in sorted_numbers(numbering.forms) if outer[number]]


def put_outer(saying, others):
    """The saying with others, a list of pairs, put for its outer parts where they stand within no other one."""
    numbering = numbered(saying)
    whole = len(numbering.forms) - 1
    outer = outer_flags(numbering.forms)
    instead = {}
    for pair in others:
        number = numbering.number(pair[0])
        if number <= whole and outer[number]:
            instead[number] = pair[1]
    return put_for_numbers(numbering, whole, instead, True)


def outer_flags(forms):
    """For each form whether it is an outer part of the last one's saying."""
    bearing = bearing_flags(forms)
    if bare_flags(forms)[-1]:
        raise Outside()
    reached = [False] * len(forms)
    reached[-1] = True
    # Forms come behind what they are built of, so from the last one down each is reached before it is looked at.
    for number in range(len(forms) - 1, -1, -1):
        if reached[number] and forms[number][0] != "shown":
            for inner in inner_of(forms[number]):
                reached[inner] = True
    return [reached[k] and bearing[k] and form[0] == "shown" for k, form in enumerate(forms)]


def bearing_flags(forms):
    """For each form whether p stands in it."""
    flags = []
    for form in forms:
        flags.append(form == ("letter", "p") or any([flags[k] for k in inner_of(form)]))
    return flags


def bare_flags(forms):
    """For each form whether p stands in it outside of shown."""
    flags = []
    for form in forms:
        bare = form[0] != "shown" and any([flags[k] for k in inner_of(form)])
        flags.append(bare or form == ("letter", "p"))
    return flags


def marking(tree, saying):
    """For each room of the tree whether the saying holds there, if p held in just the rooms where it does.

    From the rooms of height 0 on, those of each height are marked by what was found further up; only
    then is it known what p says in them, and with it what is built of p outside of shown.
    """
    forms = numbered(saying).forms
    bare = bare_flags(forms)
    if bare[-1]:
        raise Outside()
    masks = [0] * len(forms)
    for rooms in tree.levels():
        level = sum([1 << room for room in rooms])
        for late in (False, True):
            for number, form in enumerate(forms):
                if bare[number] == late:
                    masks[number] |= level & mask_at(form, masks, tree, rooms)
    return truths_of(masks[-1], len(tree.told))


def mask_at(form, masks, tree, rooms):
    """The mask of a form in these rooms of the tree, p holding where the last form does."""
    if form == ("letter", "p"):
        return masks[-1]
    if form[0] == "shown":
        return tree.shown_mask(masks[form[1]], rooms)
    if form[0] == "letter":
        return tree.marked[form[1]]
    return mask_built(form, masks, tree.full)


def answer(saying):
    """A saying without p that holds just where the saying does that speaks of itself."""
    outer = outer_parts(saying)
    if len(outer) > MOST_OUTER or size_of(saying) > MOST_SIZE:
        raise TooMany()
    if len(outer) == 2:
        return answer_to_two(saying, outer)
    return answer_to_one(saying)


def answer_to_one(saying):
    """The answer to a saying with one outer part or none."""
    outer = outer_parts(saying)
    if not outer:
        return saying
    without = put_outer(saying, [(outer[0], yes())])
    return put_outer(saying, [(outer[0], put(outer[0], {"p": without}))])


def answer_to_two(saying, outer):
    """The answer to a saying with these two outer parts."""
    others = []
    for part in outer:
        less = answer_to_one(put_outer(saying, [(part, yes())]))
        others.append((part, put(part, {"p": less})))
    return put_outer(saying, others)
