"""Tariffs from mart to mart: purses sent by them, whether they are let by, two of them one behind the other."""

from swapmart.papers import paper_on
from swapmart.purses import mixed, refuse_misfits, refuse_unlike
from swapmart.stairs import marked_stair


def sent(tariff, purse, l):
    """What a purse is sent to by a tariff to a mart of l kinds."""
    return mixed(purse, tariff, l)


def goes(mart, other_mart, tariff):
    """Whether a tariff is let by: ("goes", rows) or ("fails", at, weights, modulus)."""
    refuse_odd_tariff(mart, other_mart, tariff)
    l, other_swaps = other_mart
    tall = marked_stair(other_swaps)
    rows = []
    for at, swap in enumerate(mart[1]):
        paper = paper_on(sent(tariff, swap, l), tall, len(other_swaps))
        if paper[0] == "apart":
            return "fails", at, paper[1], paper[2]
        rows.append(paper[1])
    return "goes", rows


def behind(first, second, l):
    """The tariff that sends by the first and then by the second, which goes to a mart of l kinds."""
    # Where the first has no purses to send, the second's own still have to fit.
    refuse_misfits(second, l)
    return [sent(second, purse, l) for purse in first]


def refuse_odd_tariff(mart, other_mart, tariff):
    """Refuse swaps, or a tariff's purses, that don't fit their mart, and a tariff of too many or too few purses."""
    k, swaps = mart
    l, other_swaps = other_mart
    refuse_misfits(swaps, k)
    refuse_misfits(other_swaps + tariff, l)
    # A tariff fits where there is just one purse of it for each number of a purse of noughts.
    refuse_unlike(tariff, [0] * k)
