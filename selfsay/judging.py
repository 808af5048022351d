"""Judging a saying, following from given sayings, and being alike."""

from selfsay.claims import claim_of
from selfsay.searching import searched


def judged(saying):
    """A showing of the saying, or a tree in whose first room it fails."""
    return follows([], saying)


def follows(givens, saying):
    """A showing that the saying follows from the given ones, or a tree in whose first room it doesn't."""
    return searched(claim_of(givens, [saying]))


def alike(one, other):
    """Two showings, of each saying from the other one, or a tree in whose first room just one of them holds."""
    ones = follows([one], other)
    if ones[0] == "tree":
        return ("unlike", ones[1])
    others = follows([other], one)
    if others[0] == "tree":
        return ("unlike", others[1])
    return ("alike", ones[1], others[1])
