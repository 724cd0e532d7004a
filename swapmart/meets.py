"""Two stairs: what is made of both together, what is made of each, and how many lie beside one in the other."""

from swapmart.errors import NoPart
from swapmart.purses import refuse_misfits
from swapmart.rungs import is_made, leads
from swapmart.stairs import climbed, stair, under
from swapmart.wholes import multiplied


def joined(one, other, k):
    """The stair of what is made of the rows of both."""
    return stair(one + other, k)


def met(one, other, k):
    """The stair of what is made of the rows of the one and of those of the other."""
    refuse_misfits(one + other, k)
    # What is made of the one is kept as a tail, so it is left where the other one's rows take it away.
    return under(climbed([row + [0] * k for row in other] + [row + row for row in one]), k)


def lies_in(inner, outer, k):
    """Whether each row of the inner stair is made of the outer one's rows."""
    refuse_misfits(inner + outer, k)
    return all([is_made(outer, row) for row in inner])


def beside(inner, outer, k):
    """How many lie beside the inner stair in the outer one, or 0 where it doesn't end."""
    if not lies_in(inner, outer, k):
        raise NoPart("a stair that doesn't lie in the other one")
    if len(inner) != len(outer):
        return 0
    # With as many rungs the two have the same places, so each lead is divided by the outer one's.
    return multiplied(leads(inner)) // multiplied(leads(outer))
