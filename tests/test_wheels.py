"""The wheels of a mart: points 2, 3, 5, 15, 16 and 17."""

import copy
import itertools
import random
import unittest

from samples import (GREAT, bad_lists, check_own, check_refused, divides, great_purse, great_shapes, left_of, misfits,
                     shapes, single, sizes_by_minors, some_purse, some_rows, sum_of, weight_of)
from swapmart.errors import NoFit
from swapmart.stairs import stair
from swapmart.wheels import purse_of, readings, wheels


def is_nothing(rungs, purse):
    return not any(left_of(rungs, purse))


def difference(one, other):
    return [mine - away for mine, away in zip(one, other)]


class TestWheels(unittest.TestCase):

    def check(self, mart):
        k, swaps = mart
        told = wheels(mart)
        self.assertIs(type(told), tuple)
        self.assertEqual([type(part) for part in told], [list] * 3)
        sizes, dials, purses = told
        self.assertEqual((len(dials), len(purses)), (len(sizes), len(sizes)))
        self.assertTrue(all(type(line) is list and len(line) == k for line in dials + purses))
        self.check_sizes(sizes)
        rungs = stair(swaps, k)
        for size, dial, purse in zip(sizes, dials, purses):
            for swap in swaps:
                self.assertTrue(divides(size, weight_of(swap, dial)))
            self.assertTrue(is_nothing(rungs, [size * number for number in purse]))
        for own, purse in enumerate(purses):
            for at, dial in enumerate(dials):
                self.assertTrue(divides(sizes[at], weight_of(purse, dial) - (1 if at == own else 0)))
        for kind in range(k):
            token = single(k, kind)
            told_again = sum_of([weight_of(token, dial) for dial in dials], purses, k)
            self.assertTrue(is_nothing(rungs, difference(token, told_again)))
        return told

    def check_sizes(self, sizes):
        self.assertTrue(all(size == 0 or size >= 2 for size in sizes))
        for one, other in itertools.pairwise(sizes):
            if one == 0:
                self.assertEqual(other, 0)
            else:
                self.assertEqual(other % one, 0)

    def test_told_sizes(self):
        for k, swaps, sizes in [(0, [], []), (0, [[], []], []), (1, [], [0]), (1, [[0]], [0]), (1, [[1]], []),
                                (1, [[-1]], []), (1, [[7]], [7]), (1, [[-7]], [7]), (1, [[4], [6]], [2]),
                                (1, [[4], [9]], []), (2, [], [0, 0]), (2, [[2, -1]], [0]), (2, [[4, -2]], [2, 0]),
                                (2, [[2, 0], [0, 3]], [6]), (2, [[2, 0], [0, 4]], [2, 4]),
                                (2, [[4, 0], [0, 2]], [2, 4]), (2, [[4, 0], [0, 6]], [2, 12]),
                                (2, [[6, 0], [0, 4]], [2, 12]),
                                (2, [[2, 1], [0, 2]], [4]), (2, [[1, 2], [3, 4]], [2]), (2, [[0, 5]], [5, 0]),
                                (3, [[2, 4, 4], [-6, 6, 12], [10, -4, -16]], [2, 6, 12]),
                                (3, [[6, 0, 0], [0, 10, 0], [0, 0, 15]], [30, 30]),
                                (3, [[0, 12, 0], [18, 0, 0]], [6, 36, 0]), (3, [[1, -1, 0], [0, 1, -1]], [0]),
                                (3, [[2, -2, 0], [0, 2, -2]], [2, 2, 0]), (4, [[3, 3, 3, 3]], [3, 0, 0, 0])]:
            with self.subTest(k=k, swaps=swaps):
                self.assertEqual(self.check((k, swaps))[0], sizes)

    def test_without_swaps(self):
        for k in range(9):
            self.assertEqual(self.check((k, []))[0], [0] * k)
            self.assertEqual(self.check((k, [[0] * k for _ in range(16)]))[0], [0] * k)

    def test_without_wheels(self):
        for k in range(9):
            self.assertEqual(self.check((k, [single(k, kind) for kind in range(k)])), ([], [], []))
        self.assertEqual(self.check((2, [[2, 3], [1, 1]])), ([], [], []))

    def test_of_one_kind(self):
        for number in [2, 3, 12, -12, GREAT, -GREAT]:
            sizes, dials, purses = self.check((1, [[number]]))
            self.assertEqual(sizes, [abs(number)])
            self.assertTrue(divides(abs(number), dials[0][0] * purses[0][0] - 1))

    def test_sizes_by_minors(self):
        chance = random.Random(41)
        for k in range(5):
            for many in range(5):
                for numbers in ([-1, 0, 1, 2], [-6, -4, 0, 2, 8, 12], range(-30, 31), [0, 6, 10, 15]):
                    for _ in range(3):
                        swaps = some_rows(chance, many, k, numbers)
                        self.assertEqual(self.check((k, swaps))[0], sizes_by_minors(swaps, k))

    def test_by_chance(self):
        chance = random.Random(42)
        for k, swaps in shapes(chance):
            self.check((k, swaps))

    def test_sizes_that_divide_late(self):
        chance = random.Random(43)
        for k in range(2, 9):
            for _ in range(6):
                leads = [chance.choice([2, 3, 4, 6, 8, 9, 12, 25, 30, 36]) for _ in range(k)]
                swaps = [[leads[kind] if at == kind else 0 for at in range(k)] for kind in range(k)]
                sizes = self.check((k, swaps))[0]
                for _ in range(12):
                    one, other = chance.sample(range(k), 2)
                    often = chance.randrange(-3, 4)
                    swaps[one] = [mine + often * more for mine, more in zip(swaps[one], swaps[other])]
                    for swap in swaps:
                        swap[one] += often * swap[other]
                # Swaps summed, and kinds told otherwise, leave the worths as they are.
                self.assertEqual(self.check((k, swaps))[0], sizes)

    def test_of_great_numbers(self):
        chance = random.Random(44)
        for k, swaps in great_shapes(chance):
            sizes, dials, purses = self.check((k, swaps))
            for line in [sizes] + dials + purses:
                self.assertTrue(all(abs(number) < 10 ** 4000 for number in line))

    def test_the_same_sizes_for_one_stair(self):
        chance = random.Random(45)
        for k, swaps in shapes(chance):
            sizes = self.check((k, swaps))[0]
            for others in (swaps[::-1], swaps + swaps[:1], stair(swaps, k),
                           [[-number for number in swap] for swap in swaps],
                           swaps + [sum_of(some_purse(chance, len(swaps)), swaps, k)]):
                self.assertEqual(self.check((k, others))[0], sizes)

    def test_what_was_told_is_handed_in_again(self):
        chance = random.Random(46)
        for k, swaps in great_shapes(chance):
            rungs = stair(swaps, k)
            sizes, dials, purses = self.check((k, rungs))
            self.assertEqual(sizes, wheels((k, swaps))[0])
            self.check((k, rungs + purses))
            self.check((k, dials))
            self.check((k, [[2 * number for number in rung] for rung in rungs]))

    def test_the_lists_are_own(self):
        chance = random.Random(47)
        for k, swaps in shapes(chance):
            check_own(self, wheels, (k, swaps))


class TestReadings(unittest.TestCase):

    def check(self, mart, purse):
        k, swaps = mart
        told = wheels(mart)
        kept = copy.deepcopy(told)
        numbers = readings(told, purse)
        self.assertIs(type(numbers), list)
        self.assertEqual(len(numbers), len(told[0]))
        for number, size, dial in zip(numbers, told[0], told[1]):
            self.assertTrue(divides(size, weight_of(purse, dial) - number))
            if size:
                self.assertTrue(0 <= number < size)
        again = purse_of(told, numbers, k)
        self.assertEqual((type(again), len(again)), (list, k))
        self.assertTrue(is_nothing(stair(swaps, k), difference(purse, again)))
        self.assertEqual(readings(told, again), numbers)
        self.assertEqual(told, kept)
        return numbers

    def test_told_readings(self):
        told = ([2, 12, 0], [[1, 1, 0], [3, 0, 5], [0, -1, 1]], [[0, 0, 0]] * 3)
        for purse, numbers in [([0, 0, 0], [0, 0, 0]), ([1, 0, 0], [1, 3, 0]), ([0, 1, 0], [1, 0, -1]),
                               ([0, 0, 1], [0, 5, 1]), ([-1, 0, 0], [1, 9, 0]), ([4, 0, 0], [0, 0, 0]),
                               ([5, 7, -3], [0, 0, -10]), ([0, 0, GREAT], [0, 5 * GREAT % 12, GREAT])]:
            self.assertEqual(readings(told, purse), numbers)

    def test_told_purses(self):
        told = ([2, 0], [[0, 0, 0], [0, 0, 0]], [[1, -2, 0], [0, 5, 3]])
        for numbers, purse in [([0, 0], [0, 0, 0]), ([1, 0], [1, -2, 0]), ([0, 1], [0, 5, 3]), ([3, -1], [3, -11, -3]),
                               ([-1, GREAT], [-1, 2 + 5 * GREAT, 3 * GREAT])]:
            self.assertEqual(purse_of(told, numbers, 3), purse)

    def test_without_wheels(self):
        self.assertEqual(readings(([], [], []), [5, -7]), [])
        self.assertEqual(readings(([], [], []), []), [])
        for k in range(9):
            self.assertEqual(purse_of(([], [], []), [], k), [0] * k)

    def test_by_chance(self):
        chance = random.Random(51)
        for k, swaps in shapes(chance):
            rungs = stair(swaps, k)
            one = some_purse(chance, k, range(-40, 41))
            told = self.check((k, swaps), one)
            way = sum_of(some_purse(chance, len(swaps)), swaps, k)
            self.assertEqual(self.check((k, swaps), [mine + more for mine, more in zip(one, way)]), told)
            for _ in range(3):
                other = some_purse(chance, k)
                self.assertIs(self.check((k, swaps), other) == told, is_nothing(rungs, difference(other, one)))

    def test_of_great_numbers(self):
        chance = random.Random(52)
        for k, swaps in great_shapes(chance):
            one = great_purse(chance, k)
            told = self.check((k, swaps), one)
            way = sum_of(great_purse(chance, len(swaps)), swaps, k)
            self.assertEqual(self.check((k, swaps), [mine + more for mine, more in zip(one, way)]), told)

    def test_the_purse_of_any_numbers(self):
        chance = random.Random(53)
        for k, swaps in shapes(chance):
            told = wheels((k, swaps))
            numbers = some_purse(chance, len(told[0]), range(-99, 100))
            purse = purse_of(told, numbers, k)
            self.assertEqual(purse, sum_of(numbers, told[2], k))
            rounded = [number % size if size else number for number, size in zip(numbers, told[0])]
            self.assertEqual(readings(told, purse), rounded)

    def test_the_lists_are_own(self):
        chance = random.Random(54)
        for k, swaps in shapes(chance):
            told = wheels((k, swaps))
            check_own(self, readings, told, some_purse(chance, k))
            check_own(self, purse_of, told, [1] * len(told[0]), k)


class TestNoFit(unittest.TestCase):

    def test_a_swap_of_another_length(self):
        for k in range(9):
            for swaps in bad_lists(k):
                with self.subTest(k=k, lengths=[len(swap) for swap in swaps]):
                    check_refused(self, wheels, (k, swaps))

    def test_a_purse_of_another_length(self):
        for k in range(1, 9):
            told = wheels((k, [[4] * k]))
            for bad in misfits(k):
                with self.subTest(k=k, length=len(bad)):
                    check_refused(self, readings, told, bad)
        # Where there is a wheel, no purse is of other kinds than its dial.
        check_refused(self, readings, ([0], [[1, 0]], [[1, 0]]), [1])
        check_refused(self, readings, ([0], [[1, 0]], [[1, 0]]), [1, 0, 0])

    def test_a_dial_or_a_purse_of_the_wheels_of_another_length(self):
        for k in range(9):
            for bad in bad_lists(k):
                sizes, good, numbers = [2] * len(bad), [[1] * k for _ in bad], [1] * len(bad)
                with self.subTest(k=k, lengths=[len(line) for line in bad]):
                    check_refused(self, readings, (sizes, bad, good), [1] * k)
                    check_refused(self, readings, (sizes, good, bad), [1] * k)
                    check_refused(self, purse_of, (sizes, good, bad), numbers, k)
                    check_refused(self, purse_of, (sizes, bad, good), numbers, k)
        told = wheels((3, [[2, 0, 0]]))
        for k in (0, 1, 2, 4, 8):
            check_refused(self, purse_of, told, [1, 1, 1], k)

    def test_one_number_more_or_fewer_than_wheels(self):
        chance = random.Random(55)
        for k, swaps in shapes(chance):
            told = wheels((k, swaps))
            many = len(told[0])
            for length in {many - 1, many + 1, 0, 16} - {many, -1}:
                for number in (0, 1):
                    with self.subTest(k=k, many=many, length=length):
                        check_refused(self, purse_of, told, [number] * length, k)
        self.assertRaises(NoFit, purse_of, ([], [], []), [0], 3)


if __name__ == "__main__":
    unittest.main()
