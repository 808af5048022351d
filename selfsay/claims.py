"""Claims, that where all of some sayings hold one of some others holds, and what they need."""

from selfsay.errors import NoRule
from selfsay.numbering import Numbering, places_of, sorted_numbers


def claim_of(left, right):
    """The claim of two lists of sayings."""
    numbering = Numbering()
    sides = (numbers_of(left, numbering), numbers_of(right, numbering))
    return told_claims([sides], numbering)[0]


def claim_parts(claim):
    """The sorted list of the unlike parts of a claim's sayings."""
    numbering = Numbering()
    numbers_of(claim[0] + claim[1], numbering)
    return [numbering.sayings[k] for k in sorted_numbers(numbering.forms)]


def claim_shown(claim):
    """The sorted list of the unlike shown parts of a claim's sayings."""
    return [part for part in claim_parts(claim) if part[0] == "shown"]


def needed(claim, rule, saying):
    """The claims that a claim needs by a rule and a saying."""
    numbering = Numbering()
    left = numbers_of(claim[0], numbering)
    right = numbers_of(claim[1], numbering)
    number = numbering.number(saying)
    return told_claims(needed_sides(left, right, rule, number, numbering.forms), numbering)


def numbers_of(sayings, numbering):
    """The numbers of the sayings."""
    return [numbering.number(saying) for saying in sayings]


def told_claims(pairs, numbering):
    """The claims whose sides have these numbers."""
    order = sorted_numbers(numbering.forms)
    places = places_of(order)
    ordered = [numbering.sayings[number] for number in order]
    return [(told_side(pair[0], places, ordered), told_side(pair[1], places, ordered)) for pair in pairs]


def told_side(numbers, places, ordered):
    """The sayings of the numbers, sorted and each once."""
    return [ordered[place] for place in sorted(set([places[number] for number in numbers]))]


def needed_sides(left, right, rule, number, forms):
    """The sides, as numbers, of the claims that a claim needs by a rule and the numbered saying."""
    word = forms[number][0]
    at_left = number in left
    at_right = number in right
    if rule == "same" and at_left and at_right:
        return []
    if rule == "never" and at_left and word == "no":
        return []
    if rule == "left" and at_left and may_open(forms[number]):
        return opened_left(forms[number], without(left, number), right)
    if rule == "right" and at_right and may_open(forms[number]):
        return opened_right(forms[number], left, without(right, number))
    if rule == "up" and at_right and word == "shown":
        return [gone_up(left, number, forms)]
    raise NoRule()


def may_open(form):
    """Whether a form is of a word that left and right are for."""
    return form[0] in ("not", "and", "or", "if")


def without(numbers, taken):
    """The numbers without the one that is taken out."""
    return [number for number in numbers if number != taken]


def opened_left(form, rest, right):
    """What is needed where the form was taken out of left."""
    word = form[0]
    inner = list(form[1:])
    if word == "not":
        return [(rest, right + inner)]
    if word == "and":
        return [(rest + inner, right)]
    if word == "or":
        return [(rest + [inner[0]], right), (rest + [inner[1]], right)]
    return [(rest, right + [inner[0]]), (rest + [inner[1]], right)]


def opened_right(form, left, rest):
    """What is needed where the form was taken out of right."""
    word = form[0]
    inner = list(form[1:])
    if word == "not":
        return [(left + inner, rest)]
    if word == "and":
        return [(left, rest + [inner[0]]), (left, rest + [inner[1]])]
    if word == "or":
        return [(left, rest + inner)]
    return [(left + [inner[0]], rest + [inner[1]])]


def gone_up(left, number, forms):
    """What is needed for the shown saying of the number to hold, by the shown ones in left."""
    kept = [number]
    for other in left:
        if forms[other][0] == "shown":
            kept.extend([forms[other][1], other])
    return (kept, [forms[number][1]])
