"""Purses as lists of whole numbers: summed, taken from one another, taken often, mixed, weighed."""

from swapmart.errors import NoFit


def plus(one, other):
    """The sum of two purses, kind by kind."""
    refuse_unlike(one, other)
    return [mine + more for mine, more in zip(one, other)]


def less(one, other):
    """The one purse less the other one, kind by kind."""
    refuse_unlike(one, other)
    return [mine - away for mine, away in zip(one, other)]


def taken(purse, many):
    """The purse so many times."""
    return [many * number for number in purse]


def mixed(counts, purses, k):
    """The sum of all purses of k kinds, each as often as its count tells."""
    refuse_unlike(counts, purses)
    total = [0] * k
    for many, purse in zip(counts, purses):
        # As the total has k numbers, plus refuses a purse that hasn't, also one taken 0 times.
        total = plus(total, taken(purse, many))
    return total


def weighed(purse, weights):
    """The sum of all products of a purse and its weights, kind by kind."""
    refuse_unlike(purse, weights)
    return sum([number * weight for number, weight in zip(purse, weights)])


def refuse_unlike(one, other):
    """Refuse two lists of unlike lengths."""
    if len(one) != len(other):
        raise NoFit(f"lists of unlike lengths: {len(one)} and {len(other)}")


def refuse_misfits(purses, k):
    """Refuse a list of purses one of which hasn't k numbers."""
    for purse in purses:
        if len(purse) != k:
            raise NoFit(f"a purse of {len(purse)} numbers, not of {k}")
