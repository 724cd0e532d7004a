"""Purses led down a stair, and whether rows are a stair."""

from swapmart.purses import less, refuse_unlike, taken


def led(rungs, purse):
    """Tell (often, rest): how often each rung is taken from the purse, and what is left of it then."""
    for rung in rungs:
        refuse_unlike(rung, purse)
    often, rest = [], list(purse)
    for rung in rungs:
        at = place_of(rung)
        many = rest[at] // rung[at]
        often.append(many)
        if many != 0:
            rest = less(rest, taken(rung, many))
    return often, rest


def is_made(rungs, purse):
    """Whether a purse is made of the rungs of a stair."""
    return not any(led(rungs, purse)[1])


def is_stair(rows):
    """Whether rows are a stair."""
    for many, row in enumerate(rows):
        if not _stands_below(row, rows[:many]):
            return False
    return True


def _stands_below(row, ahead):
    """Whether a row may stand in a stair right behind the rows ahead of it."""
    at = place_of(row)
    if at == len(row) or row[at] < 1:
        return False
    for upper in ahead:
        if len(upper) != len(row) or place_of(upper) >= at or not 0 <= upper[at] < row[at]:
            return False
    return True


def place_of(purse):
    """The least kind of which a purse has not 0; of a purse of noughts how many kinds there are."""
    for at, number in enumerate(purse):
        if number != 0:
            return at
    return len(purse)


def leads(rungs):
    """What each rung of a stair has at its place."""
    return [rung[place_of(rung)] for rung in rungs]
