"""Showings: lists of steps of which each is right by the earlier ones that it uses."""

from selfsay.claims import needed_sides, numbers_of
from selfsay.errors import NoRule
from selfsay.numbering import Numbering, places_of, sorted_numbers


def shows(steps, claim):
    """Whether the steps are a showing of the claim."""
    numbering = Numbering()
    claims = [(numbers_of(step[0], numbering), numbers_of(step[1], numbering)) for step in steps]
    sayings = [numbering.number(step[3]) for step in steps]
    asked = (numbers_of(claim[0], numbering), numbers_of(claim[1], numbering))
    if not claims or claims[-1] != asked:
        return False
    places = places_of(sorted_numbers(numbering.forms))
    if not all([is_claim(each, places) for each in claims]):
        return False
    return all([is_right(number, step, sayings[number], claims, numbering.forms) for number, step in enumerate(steps)])


def is_claim(sides, places):
    """Whether both sides, as numbers, are sorted and without doubles."""
    return is_rising(sides[0], places) and is_rising(sides[1], places)


def is_rising(numbers, places):
    """Whether each of the numbers stands at a later place than the one ahead."""
    return all([places[one] < places[other] for one, other in zip(numbers, numbers[1:])])


def is_right(number, step, saying, claims, forms):
    """Whether the numbered step is right by the earlier ones, its saying being numbered too."""
    uses = step[4]
    if not all([0 <= use < number for use in uses]):
        return False
    try:
        needs = needed_sides(claims[number][0], claims[number][1], step[2], saying, forms)
    except NoRule:
        return False
    return [without_order(need) for need in needs] == [without_order(claims[use]) for use in uses]


def without_order(sides):
    """The sides of a claim, the same in whatever order and how often their numbers come."""
    return (sorted(set(sides[0])), sorted(set(sides[1])))
