"""What several test files share: rows by chance, sums reckoned apart from the program, and whose a list is."""

import copy
import itertools
import math

from swapmart.errors import NoFit
from swapmart.wholes import is_whole

GREAT = 10 ** 299 + 3
SMALL = [0, 0, 0, 1, -1, 1, -1, 2, -2, 3, -3, 4, 6, -6, 9, 12]


def some_purse(chance, k, numbers=SMALL):
    return [chance.choice(numbers) for _ in range(k)]


def some_rows(chance, many, k, numbers=SMALL):
    return [some_purse(chance, k, numbers) for _ in range(many)]


def great_purse(chance, k, figures=300):
    return [chance.randrange(1 - 10 ** figures, 10 ** figures) for _ in range(k)]


def great_rows(chance, many, k, figures=300):
    return [great_purse(chance, k, figures) for _ in range(many)]


def flat_rows(chance, many, k, rank, figures=100):
    """Rows of which no more than rank are free of one another."""
    return [sum_of(great_purse(chance, rank, figures), base, k)
            for base in [great_rows(chance, rank, k, figures)] for _ in range(many)]


def shapes(chance):
    """Kinds and rows of many shapes, most of them small."""
    for k in range(9):
        for many in (0, 1, 2, 3, 5, 8, 16):
            yield k, some_rows(chance, many, k)
        yield k, [[0] * k for _ in range(3)]
    for k in (1, 2, 3, 4):
        for _ in range(15):
            yield k, some_rows(chance, chance.randrange(6), k, range(-9, 10))


def great_shapes(chance):
    """Kinds and rows of numbers of up to three hundred figures."""
    for k, many in [(1, 16), (2, 2), (3, 7), (5, 5), (8, 1), (8, 4), (8, 7), (8, 8), (8, 9), (8, 16)]:
        yield k, great_rows(chance, many, k)
    yield 8, flat_rows(chance, 16, 8, 4)
    yield 6, some_rows(chance, 6, 6, [2 ** 900, 6 ** 300, -3 ** 500, 12 ** 200, 0, 10 ** 299])
    yield 8, [[GREAT - 3 if at == own else 0 for at in range(8)] for own in range(8)] + great_rows(chance, 8, 8)


def sum_of(counts, rows, k):
    """All rows, each so often, summed by k columns."""
    assert len(counts) == len(rows)
    return [sum(many * row[at] for many, row in zip(counts, rows)) for at in range(k)]


def weight_of(purse, weights):
    assert len(purse) == len(weights)
    return sum(many * weight for many, weight in zip(purse, weights))


def divides(modulus, number):
    """Whether a modulus divides a number; what is no modulus is an error of the test's."""
    assert is_whole(modulus) and (modulus == 0 or modulus >= 2), modulus
    return number == 0 if modulus == 0 else number % modulus == 0


def place(row):
    return next(at for at, number in enumerate(row) if number != 0)


def stands(rows):
    """Whether rows are a stair, by the words of the document."""
    if any(not any(row) for row in rows):
        return False
    places = [place(row) for row in rows]
    leads = [row[at] for row, at in zip(rows, places)]
    rising = all(one < other for one, other in itertools.pairwise(places))
    small = all(0 <= rows[upper][places[lower]] < leads[lower]
                for lower in range(len(rows)) for upper in range(lower))
    return rising and small and all(lead >= 1 for lead in leads)


def left_of(rungs, purse):
    """What a stair leaves of a purse, taken away column by column."""
    left = list(purse)
    for rung in rungs:
        often = left[place(rung)] // rung[place(rung)]
        left = [mine - often * away for mine, away in zip(left, rung)]
    return left


def single(k, kind):
    return [1 if at == kind else 0 for at in range(k)]


def singles(k):
    return [single(k, kind) for kind in range(k)]


def made_of(rungs, purse):
    return not any(left_of(rungs, purse))


def moved(chance, purse, swaps):
    """A purse of the same worth."""
    way = sum_of(some_purse(chance, len(swaps)), swaps, len(purse))
    return [mine + more for mine, more in zip(purse, way)]


def product_of(numbers):
    told = 1
    for number in numbers:
        told *= number
    return told


def leads_of(rungs):
    return product_of(row[place(row)] for row in rungs)


def let_by(chance, k, l, numbers):
    """Two marts and a tariff between them that is let by."""
    swaps, tariff = some_rows(chance, 3, k, numbers), some_rows(chance, k, l, numbers)
    other_swaps = [sum_of(swap, tariff, l) for swap in swaps] + some_rows(chance, 2, l, numbers)
    chance.shuffle(other_swaps)
    return (k, swaps), (l, other_swaps), tariff


def check_stair(test, rungs, k):
    """A stair of k kinds, by the words of the document."""
    test.assertIs(type(rungs), list)
    test.assertTrue(all(type(row) is list and len(row) == k for row in rungs))
    test.assertTrue(stands(rungs))


def check_dial(test, weights, modulus, rows, purse):
    """A dial for the rows whose modulus doesn't divide what the purse weighs."""
    test.assertIs(type(weights), list)
    test.assertTrue(all(divides(modulus, weight_of(row, weights)) for row in rows))
    test.assertFalse(divides(modulus, weight_of(purse, weights)))


def determinant(rows):
    if not rows:
        return 1
    return sum((-1) ** at * row[0] * determinant([other[1:] for other in rows[:at] + rows[at + 1:]])
               for at, row in enumerate(rows) if row[0] != 0)


def sizes_by_minors(rows, k):
    """The sizes of the wheels of small rows, from the greatest number that divides all minors of each order."""
    sizes, before = [], 1
    for order in range(1, k + 1):
        divisor = 0
        for some in itertools.combinations(rows, order):
            for kinds in itertools.combinations(range(k), order):
                divisor = math.gcd(divisor, determinant([[row[at] for at in kinds] for row in some]))
        sizes.append(divisor // before if before else 0)
        before = divisor
    return [size for size in sizes if size != 1]


def lists_in(thing):
    """All lists in a thing, the thing itself and lists in lists included."""
    if isinstance(thing, (list, tuple)):
        below = [found for part in thing for found in lists_in(part)]
        return [thing] + below if isinstance(thing, list) else below
    return []


def numbers_in(thing):
    if isinstance(thing, (list, tuple)):
        return [found for part in thing for found in numbers_in(part)]
    return [] if isinstance(thing, str) else [thing]


def spoil(thing):
    """Change each list in a thing."""
    for found in lists_in(thing):
        if found and is_whole(found[0]):
            found[0] += 5
        found.append(77)


def check_own(test, function, *handed):
    """Nothing handed in is changed, the lists told are the asker's own, and the same is told again of the same."""
    handed, kept = copy.deepcopy(handed), copy.deepcopy(handed)
    told = function(*handed)
    test.assertEqual(handed, kept)
    first = copy.deepcopy(told)
    again = function(*copy.deepcopy(handed))
    test.assertEqual(again, first)
    ids = [id(found) for found in lists_in(told) + lists_in(again)]
    test.assertEqual(len(set(ids)), len(ids), "two lists are one")
    test.assertFalse(set(ids) & {id(found) for found in lists_in(handed)}, "a list handed in is told")
    test.assertTrue(all(is_whole(number) for number in numbers_in(told)) or told is True or told is False)
    spoil(handed)
    test.assertEqual(told, first)
    spoil(again)
    test.assertEqual(told, first)
    test.assertEqual(function(*kept), first)
    return first


def misfits(k):
    """Purses that haven't k numbers."""
    lengths = [length for length in (k - 1, k + 1, 0, 2 * k, 16) if length >= 0 and length != k]
    return [[0] * length for length in lengths] + [[1] * length for length in lengths]


def bad_lists(k):
    """Lists of purses one of which, at least, hasn't k numbers."""
    good = [[2] * k, [0] * k, [1] * k]
    lists = [[bad] for bad in misfits(k)] + [[bad, list(bad)] for bad in misfits(k)]
    for at in range(4):
        lists += [good[:at] + [bad] + good[at:] for bad in misfits(k)]
    if k > 0:
        # Together these have as many numbers as good ones.
        lists += [[[1] * (k - 1), [1] * (k + 1)], [[1] * (k + 1), [1] * (k - 1)], [[], [0] * k, [1] * (2 * k)],
                  good + [[0] * (k + 1), [0] * (k - 1)]]
    return lists


def check_refused(test, function, *handed):
    """It is refused with NoFit, and nothing is changed."""
    kept = copy.deepcopy(handed)
    with test.assertRaises(NoFit) as caught:
        function(*handed)
    test.assertIs(type(caught.exception), NoFit)
    test.assertEqual(handed, kept)
