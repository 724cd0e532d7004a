"""The stock of some purses: all that comes of them and of a mart's swaps."""

from swapmart.papers import same
from swapmart.stairs import stair


def stock(mart, purses):
    """The stair of all that is made of the purses and the mart's swaps."""
    k, swaps = mart
    return stair(purses + swaps, k)


def within(mart, purses, purse):
    """Whether a purse is made of purses and swaps: ("within", counts, swap_counts) or ("without", weights, modulus)."""
    k, swaps = mart
    rows = purses + swaps
    paper = same((k, rows), [0] * k, purse)
    if paper[0] == "apart":
        return "without", paper[1], paper[2]
    counts = paper[1]
    return "within", counts[:len(purses)], counts[len(purses):]
