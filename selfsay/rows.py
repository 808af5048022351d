"""Rows of truths by heights, for sayings without letters."""

from selfsay.errors import HasLetter
from selfsay.numbering import full_mask, mask_built, numbered, truths_of
from selfsay.sayings import depth_by_forms, letters_by_forms, yes


def row_of(saying):
    """Whether the saying holds in rooms of height 0, 1, and so on up to its depth."""
    forms = numbered(saying).forms
    letters = letters_by_forms(forms)
    if letters:
        raise HasLetter(letters[0])
    count = depth_by_forms(forms) + 1
    full = full_mask(count)
    masks = []
    for form in forms:
        if form[0] == "shown":
            masks.append(shown_heights(masks[form[1]], full))
        else:
            masks.append(mask_built(form, masks, full))
    return truths_of(masks[-1], count)


def shown_heights(mask, full):
    """The mask of the heights below which there is none outside of the mask."""
    # Further up than a room there are rooms of each lesser height, so the first failing decides.
    first_failing = (mask + 1) & ~mask
    return ((first_failing << 1) - 1) & full


def same_rows(one, other):
    """Whether two rows tell the same truth for each height."""
    count = max(len(one), len(other))
    return lengthened(one, count) == lengthened(other, count)


def lengthened(row, count):
    """The row with its last truth told over again."""
    return list(row) + [row[-1]] * (count - len(row))


def saying_of_row(row):
    """A saying without letters whose row is alike to the row."""
    lower = lower_sayings(len(row))
    saying = yes() if row[-1] else ("no",)
    for height in range(len(row) - 1, 0, -1):
        if row[height - 1] and not row[height]:
            saying = ("or", lower[height], saying)
        elif row[height] and not row[height - 1]:
            saying = ("and", ("not", lower[height]), saying)
    return saying


def lower_sayings(count):
    """For each of so many heights, from 0 on, a saying that holds just in the rooms of lesser height."""
    sayings = [("no",)]
    for height in range(1, count):
        sayings.append(("shown", sayings[height - 1]))
    return sayings
