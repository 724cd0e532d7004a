"""Whether two marts are alike, told with tariffs there and back."""

from swapmart.purses import mixed
from swapmart.rungs import led
from swapmart.stairs import stair
from swapmart.wheels import wheels


def alike(mart, other_mart):
    """Tell ("alike", there, back), two tariffs, or ("unlike", at), the first place at which the sizes differ."""
    sizes, dials, purses = wheels(mart)
    other_sizes, other_dials, other_purses = wheels(other_mart)
    if sizes != other_sizes:
        return "unlike", _first_unlike(sizes, other_sizes)
    return "alike", _tariff(mart, dials, other_mart, other_purses), _tariff(other_mart, other_dials, mart, purses)


def _first_unlike(sizes, other_sizes):
    """The first place at which two lists differ or one ends."""
    for at, (size, other_size) in enumerate(zip(sizes, other_sizes)):
        if size != other_size:
            return at
    return min(len(sizes), len(other_sizes))


def _tariff(mart, dials, other_mart, other_purses):
    """The tariff by which a mart's wheels become another mart's wheels of the same sizes."""
    l, other_swaps = other_mart
    rungs = stair(other_swaps, l)
    tariff = []
    for kind in range(mart[0]):
        token_readings = [dial[kind] for dial in dials]
        # A plain purse is of the same worth, and has fewer figures where the rungs have.
        tariff.append(led(rungs, mixed(token_readings, other_purses, l))[1])
    return tariff
