"""Papers of answers: showings that an answer is alike to what it answers."""

from selfsay.judging import follows
from selfsay.sayings import put
from selfsay.selves import answer


def self_paper(saying):
    """The answer to a saying that speaks of itself, and two showings that it is so."""
    told = answer(saying)
    said = put(saying, {"p": told})
    return (told, follows([told], said)[1], follows([said], told)[1])
