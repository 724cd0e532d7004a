"""The stair of rows, and the counts by which it is made of them."""

from swapmart.purses import plus, refuse_misfits, taken
from swapmart.rungs import is_made, led, place_of
from swapmart.wholes import shared


def stair(rows, k):
    """The one stair of which the same purses are made as of the rows of k kinds."""
    refuse_misfits(rows, k)
    return climbed(rows)


def with_counts(rows, k):
    """Tell (stair, counts): the stair of the rows, and for each of its rows how often each row handed in is taken."""
    refuse_misfits(rows, k)
    upper = [rung for rung in marked_stair(rows) if place_of(rung) < k]
    return [rung[:k] for rung in upper], [rung[k:] for rung in upper]


def climbed(rows):
    """The stair of rows that fit one another."""
    rungs = []
    for row in rows:
        rungs = _with_row(rungs, row)
    return rungs


def marked(rows):
    """Each row with a mark behind it, a number for each of the rows: 1 for the row itself, 0 for the others.

    What is made of marked rows tells in its mark how often each of the rows was taken.
    """
    places = range(len(rows))
    return [list(row) + [1 if at == own else 0 for at in places] for own, row in enumerate(rows)]


def marked_stair(rows):
    """The stair of marked rows: first the rows' own stair, then, noughts ahead of the marks, how rows make nothing.

    A row that is made of those ahead of it is left out. It would add nothing but a longer stair.
    """
    rungs, tall = [], []
    for row, long_row in zip(rows, marked(rows)):
        if not is_made(rungs, row):
            rungs = _with_row(rungs, row)
            tall = _with_row(tall, long_row)
    return tall


def under(tall, k):
    """What the rungs of a stair that have k noughts ahead have behind these.

    Where each row of the stair had a tail behind its k numbers, these are the tails of all that makes k noughts.
    """
    return [rung[k:] for rung in tall if place_of(rung) >= k]


def _with_row(rungs, row):
    """The stair of a stair's rungs and one row more."""
    ahead, behind = [], rungs
    left = led(behind, row)[1]
    while any(left):
        at = place_of(left)
        while behind and place_of(behind[0]) < at:
            ahead.append(behind[0])
            behind = behind[1:]
        if behind and place_of(behind[0]) == at:
            rung, left = crossed(behind[0], left, crossing(behind[0][at], left[at]))
            behind = behind[1:]
        else:
            rung, left = _upright(left, at), [0] * len(left)
        ahead.append(rung)
        # What is left is led down at each step, so that its numbers don't grow from step to step.
        left = led(behind, left)[1]
    return _settled(ahead, behind)


def crossing(lead, more):
    """Tell (a, b, c, d): of lead and more, a and b make their shared one, c and d make 0, and ad - bc is 1."""
    if more % lead == 0:
        # Here the lead stays as it is, so what was come to with it stays, too.
        return 1, 0, -(more // lead), 1
    share, a, b = shared(lead, more)
    return a, b, -(more // share), lead // share


def crossed(one, other, turn):
    """Two purses of which the same ones are made as of two, mixed by a crossing."""
    a, b, c, d = turn
    return plus(taken(one, a), taken(other, b)), plus(taken(one, c), taken(other, d))


def _upright(row, at):
    """A row with its lead above nought."""
    return taken(row, 1 if row[at] > 0 else -1)


def _settled(ahead, behind):
    """The stair of rungs that rise, of which those behind are a stair already."""
    rungs = list(behind)
    for rung in reversed(ahead):
        rungs = [led(rungs, rung)[1]] + rungs
    return rungs
