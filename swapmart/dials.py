"""Dials that are silent on purses, and purses that are hushed by dials, at marts whose worths end."""

from swapmart.errors import Endless
from swapmart.purses import refuse_misfits
from swapmart.rungs import led
from swapmart.stairs import climbed
from swapmart.wheels import wheels


def round_of(mart):
    """The least number, from 1 on, that makes each purse taken so often worth nothing."""
    sizes = wheels(mart)[0]
    if 0 in sizes:
        raise Endless("the worths of the mart don't end")
    return sizes[-1] if sizes else 1


def silent(mart, purses):
    """The stair of all dials whose weight of each of the purses the round divides."""
    k, swaps = mart
    refuse_misfits(swaps + purses, k)
    return _even(swaps + purses, round_of(mart), k)


def hushed(mart, dials):
    """The stair of all purses whose weight by each of the rows of weights the round divides."""
    k, swaps = mart
    refuse_misfits(swaps + dials, k)
    return _even(dials, round_of(mart), k)


def _even(rows, turn, k):
    """The stair of all lists of k numbers whose sum of products with each row a number from 1 on divides."""
    tokens = [[turn if at == kind else 0 for at in range(k)] for kind in range(k)]
    # Rows of one number alone, the turn, ask nothing more, and keep all numbers of the stair from growing.
    rungs = climbed(tokens + rows)
    # The turn of each token is so often each rung; column by column this weighs one rung the turn, the others 0.
    often = [led(rungs, token)[0] for token in tokens]
    return climbed(tokens + [[line[at] for line in often] for at in range(k)])
