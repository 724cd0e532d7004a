"""How many worths a mart has, and which."""

from swapmart.errors import TooMany
from swapmart.rungs import leads
from swapmart.stairs import stair
from swapmart.wholes import multiplied

MOST_WORTHS = 200


def many_worths(mart):
    """How many worths a mart has, or 0 where they don't end."""
    k, swaps = mart
    rungs = stair(swaps, k)
    return multiplied(leads(rungs)) if len(rungs) == k else 0


def all_worths(mart):
    """All plain purses of a mart, rising."""
    many = many_worths(mart)
    if many == 0 or many > MOST_WORTHS:
        raise TooMany(f"more than {MOST_WORTHS} worths, or they don't end")
    # With a rung for each kind, the plain purses are just those with less than each lead.
    k, swaps = mart
    purses = [[]]
    for lead in leads(stair(swaps, k)):
        purses = [purse + [number] for purse in purses for number in range(lead)]
    return purses
