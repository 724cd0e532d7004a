"""Papers on two purses: how often which swaps lead from one to the other, or a dial that parts them."""

from math import gcd

from swapmart.purses import less, mixed, refuse_misfits, taken, weighed
from swapmart.rungs import led, place_of
from swapmart.stairs import marked_stair
from swapmart.wholes import round_by


def same(mart, one, other):
    """A paper on two purses: ("same", counts) or ("apart", weights, modulus)."""
    k, swaps = mart
    refuse_misfits(swaps + [one, other], k)
    return paper_on(less(other, one), marked_stair(swaps), len(swaps))


def paper_on(way, tall, many):
    """A paper on two purses a way apart, told the marked stair of the swaps and how many swaps there are."""
    k = len(way)
    rest = led(tall, way + [0] * many)[1]
    if any(rest[:k]):
        weights, modulus = parting([rung[:k] for rung in tall if place_of(rung) < k], rest[:k])
        return "apart", weights, modulus
    # The marks tell what was taken from the purse, so they are the counts with the other sign.
    return "same", taken(rest[k:], -1)


def holds(mart, one, other, paper):
    """Whether a paper on two purses holds."""
    k, swaps = mart
    refuse_misfits(swaps + [one, other], k)
    way = less(other, one)
    if paper[0] == "same":
        counts = paper[1]
        return len(counts) == len(swaps) and mixed(counts, swaps, k) == way
    weights, modulus = paper[1], paper[2]
    # A modulus of 1 needs no word here: it divides everything, so nothing is parted by it.
    if len(weights) != k or modulus < 0:
        return False
    if not all([_divides(modulus, weighed(swap, weights)) for swap in swaps]):
        return False
    return not _divides(modulus, weighed(way, weights))


def _divides(modulus, number):
    """Whether a modulus leaves a number without a rest; 0 leaves 0 alone."""
    return round_by(number, modulus) == 0


def parting(rungs, rest):
    """A dial for a stair whose modulus doesn't divide what a rest, led down and not all noughts, weighs."""
    for rung in rungs:
        at = place_of(rung)
        if rest[at] != 0:
            # Of that kind is left less than the lead, which the lead doesn't divide.
            return _balanced(rungs, at, rung[at], len(rest))
    # At no place is anything left, so the rest weighs what it has of its first kind, which only 0 mustn't be.
    return _balanced(rungs, place_of(rest), 0, len(rest))


def _balanced(rungs, kind, modulus, k):
    """A dial for a stair that begins with one kind and gives weights else only to places ahead of that kind.

    The weights and the modulus are taken often enough for whole numbers, both as often, so that a purse
    without tokens at those places stays divided, or not divided, as it was by the modulus handed in.
    """
    weights = [1 if at == kind else 0 for at in range(k)]
    for rung in reversed(rungs):
        at = place_of(rung)
        over = round_by(weighed(rung, weights), modulus)
        often = rung[at] // gcd(rung[at], over)
        weights, modulus = taken(weights, often), modulus * often
        weights[at] -= often * over // rung[at]
    return [round_by(weight, modulus) for weight in weights], modulus
