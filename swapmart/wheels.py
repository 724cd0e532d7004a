"""The wheels of a mart, by which its worths are read and told again."""

from math import gcd, lcm

from swapmart.purses import mixed, refuse_misfits, weighed
from swapmart.rungs import led
from swapmart.stairs import climbed, crossed, crossing, marked, stair
from swapmart.wholes import multiplied, round_by


def wheels(mart):
    """Tell (sizes, dials, purses), the wheels of a mart."""
    k, swaps = mart
    axes = Axes(stair(swaps, k), k)
    sizes = _chained(axes, _parted(axes)) + [0] * (k - len(axes.rungs))
    kept = [at for at, size in enumerate(sizes) if size != 1]
    dials = [[round_by(weight, sizes[at]) for weight in axes.dials[at]] for at in kept]
    return [sizes[at] for at in kept], dials, [axes.purses[at] for at in kept]


def readings(told, purse):
    """What a purse weighs by each dial of the wheels told, brought round that wheel's size."""
    sizes, dials, purses = told
    refuse_misfits(dials + purses, len(purse))
    return [round_by(weighed(purse, dial), size) for size, dial in zip(sizes, dials)]


def purse_of(told, numbers, k):
    """The purse, of k kinds, of a number for each of the wheels told."""
    _, dials, purses = told
    refuse_misfits(dials + purses, k)
    return mixed(numbers, purses, k)


class Axes:
    """A dial and a purse for each kind, such that each purse weighs 1 by its own dial and 0 by the others.

    Each rung weighs 0 by the dials behind the first ones, which are as many as the rungs. Of the first ones
    it is enough what the weights leave by the whole, and of their purses what is left of them down the rungs.
    """

    def __init__(self, rungs, k):
        rows = marked([[rung[kind] for rung in rungs] for kind in range(k)])
        tall = climbed(rows)
        # The marks tell how often the tall stair takes the rows; led down it, the rows tell it the other way round.
        back = [led(tall, row)[0] for row in rows]
        self.rungs = rungs
        self.dials = [row[len(rungs):] for row in tall]
        self.purses = [[often[at] for often in back] for at in range(k)]
        # A line for each of the first dials: what each rung weighs by it.
        self.table = [row[:len(rungs)] for row in tall[:len(rungs)]]
        self.whole = multiplied([line[at] for at, line in enumerate(self.table)])

    def swing(self, at, other, turn):
        """Turn two of the first dials, and their purses against them."""
        a, b, c, d = turn
        dial, other_dial = crossed(self.dials[at], self.dials[other], turn)
        self.dials[at] = [round_by(weight, self.whole) for weight in dial]
        self.dials[other] = [round_by(weight, self.whole) for weight in other_dial]
        purse, other_purse = crossed(self.purses[at], self.purses[other], (d, -c, -b, a))
        self.purses[at] = led(self.rungs, purse)[1]
        self.purses[other] = led(self.rungs, other_purse)[1]


def _parted(axes):
    """Swing the axes until each rung weighs something by one dial alone; told is what, dial by dial."""
    table = axes.table
    at = 0
    while at < len(table):
        table = _across(climbed(_across(table)))
        others = [other for other in range(at + 1, len(table)) if table[other][at] != 0]
        if not others:
            at += 1
        for other in others:
            turn = crossing(table[at][at], table[other][at])
            table[at], table[other] = crossed(table[at], table[other], turn)
            axes.swing(at, other, turn)
    return [line[own] for own, line in enumerate(table)]


def _across(lines):
    """Lines, each with as many numbers as there are lines, read the other way."""
    return [[line[at] for line in lines] for at in range(len(lines))]


def _chained(axes, sizes):
    """Swing the axes until each size divides the next one; told are these sizes."""
    chain = list(sizes)
    for at in range(len(chain)):
        for other in range(at + 1, len(chain)):
            if chain[other] % chain[at] != 0:
                axes.swing(at, other, crossing(chain[at], chain[other]))
                chain[at], chain[other] = gcd(chain[at], chain[other]), lcm(chain[at], chain[other])
    return chain
