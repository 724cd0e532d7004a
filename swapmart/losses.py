"""What a tariff that is let by loses of the first mart, and what it comes to at the second."""

from swapmart.errors import NoTariff
from swapmart.rungs import is_made
from swapmart.stairs import climbed, marked, stair, under
from swapmart.stocks import stock
from swapmart.tariffs import refuse_odd_tariff, sent


def lost(mart, other_mart, tariff):
    """The stair of all purses of the first mart that are sent to a purse worth nothing."""
    _refuse_unlet(mart, other_mart, tariff)
    l, other_swaps = other_mart
    # The marks are the purses of the first mart themselves: how many tokens of each kind are sent.
    unmarked = [swap + [0] * len(tariff) for swap in other_swaps]
    return under(climbed(unmarked + marked(tariff)), l)


def come_to(mart, other_mart, tariff):
    """The stock, at the second mart, of a tariff's purses."""
    _refuse_unlet(mart, other_mart, tariff)
    return stock(other_mart, tariff)


def _refuse_unlet(mart, other_mart, tariff):
    """Refuse a tariff that isn't let by, and first of all what doesn't fit."""
    refuse_odd_tariff(mart, other_mart, tariff)
    l, other_swaps = other_mart
    rungs = stair(other_swaps, l)
    for swap in mart[1]:
        if not is_made(rungs, sent(tariff, swap, l)):
            raise NoTariff("a swap is sent to a purse that isn't worth nothing")
