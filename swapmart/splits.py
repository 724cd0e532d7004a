"""Whether the stock of some purses splits off, with what is left, or is bound, with a purse that shows it."""

from swapmart.papers import parting
from swapmart.purses import plus, taken
from swapmart.rungs import led
from swapmart.stairs import climbed, stair
from swapmart.wheels import wheels


def split_off(mart, purses):
    """Tell ("splits", others) or ("bound", many, purse, root, weights, modulus) of the stock of purses."""
    k, swaps = mart
    rungs, whole = stair(swaps, k), stair(swaps + purses, k)
    # The purses of these wheels, with the stock, make each single token, and each taken its size is within the stock.
    sizes, _, roots = wheels((k, whole))
    others = []
    for size, root in zip(sizes, roots):
        rest = _left_of_root(rungs, whole, root, size)
        if any(rest[:k]):
            return _bond(rungs, whole, root, size)
        # The tail left is a purse of the stock, taken away, so that the size of what remains is worth nothing.
        others.append(led(rungs, plus(root, rest[k:]))[1])
    return "splits", others


def _left_of_root(rungs, whole, root, size):
    """What is left of a root taken its size when rungs and the stock's purses, taken the size, are taken away.

    It is told with a tail: the purses of the stock that were taken away, below nought.
    """
    nothing = [0] * len(root)
    rows = [rung + nothing for rung in rungs] + [taken(row, size) + row for row in whole]
    return led(climbed(rows), taken(root, size) + nothing)[1]


def _bond(rungs, whole, root, many):
    """What shows that a stock is bound by a root that, taken many times, is no purse of the stock taken many times."""
    purse = led(rungs, taken(root, many))[1]
    base = climbed(rungs + [taken(row, many) for row in whole])
    weights, modulus = parting(base, led(base, purse)[1])
    return "bound", many, purse, root, weights, modulus
