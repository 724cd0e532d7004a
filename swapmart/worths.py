"""The plain purse of a worth, and how often a purse is taken until it is worth nothing."""

from math import gcd

from swapmart.purses import less, refuse_misfits, taken
from swapmart.rungs import led, place_of
from swapmart.stairs import stair


def plain(mart, purse):
    """The plain purse that is of one worth with a purse."""
    k, swaps = mart
    refuse_misfits(swaps + [purse], k)
    return led(stair(swaps, k), purse)[1]


def span(mart, purse):
    """The least number of times, from 1 on, that makes a purse worth nothing, or 0 where there is none."""
    k, swaps = mart
    refuse_misfits(swaps + [purse], k)
    rungs = stair(swaps, k)
    rest = led(rungs, purse)[1]
    many = 1
    for rung in rungs:
        at = place_of(rung)
        # Taken less often, something would be left at this place, and no later rung takes it away.
        often = rung[at] // gcd(rung[at], rest[at])
        many = many * often
        whole = taken(rest, often)
        rest = less(whole, taken(rung, whole[at] // rung[at]))
    return 0 if any(rest) else many
