"""Whole numbers: what one is, the shared one of two, a number brought round a size."""


def is_whole(thing):
    """Whether a thing, of any kind, is an int that is no truth."""
    return isinstance(thing, int) and not isinstance(thing, bool)


def shared(one, other):
    """Tell (d, a, b): d, without a sign, is the greatest that divides both, and is a * one + b * other."""
    d, next_d = abs(one), abs(other)
    a, next_a = 1, 0
    b, next_b = 0, 1
    # By a loop, as numbers of three hundred figures may take more steps than calls may be nested.
    while next_d != 0:
        often = d // next_d
        d, next_d = next_d, d - often * next_d
        a, next_a = next_a, a - often * next_a
        b, next_b = next_b, b - often * next_b
    return d, _with_sign_of(one, a), _with_sign_of(other, b)


def _with_sign_of(number, many):
    """Many for the number itself, where it is told for the number without its sign."""
    return -many if number < 0 else many


def round_by(many, size):
    """The rest, from 0 to size - 1, that a number leaves by a size; of size 0 the number itself."""
    # Nought divides nought alone, so by size 0 each number is a rest of its own.
    return many if size == 0 else many % size


def multiplied(numbers):
    """All numbers of a list multiplied, of none 1."""
    told = 1
    for number in numbers:
        told = told * number
    return told
