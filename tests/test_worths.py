"""Plain purses and spans: points 2, 3, 13, 14 and 15."""

import itertools
import random
import unittest

from samples import (GREAT, bad_lists, check_own, check_refused, great_purse, great_shapes, left_of, misfits, shapes,
                     some_purse, sum_of)
from swapmart.papers import same
from swapmart.stairs import stair
from swapmart.worths import plain, span


class TestPlain(unittest.TestCase):

    def test_told_purses(self):
        for swaps, purse, told in [([], [5, -3], [5, -3]), ([[0, 0]], [5, -3], [5, -3]), ([[2, -1]], [5, 0], [1, 2]),
                                   ([[-2, 1]], [5, 0], [1, 2]), ([[2, 1], [0, 3]], [5, 4], [1, 2]),
                                   ([[2, 1], [0, 3]], [-1, 0], [1, 1]), ([[1, 0], [0, 1]], [9, -9], [0, 0]),
                                   ([[4, 2], [6, 3]], [3, 0], [1, -1]), ([[0, 5]], [7, -1], [7, 4])]:
            with self.subTest(swaps=swaps, purse=purse):
                self.assertEqual(plain((2, swaps), purse), told)

    def test_of_no_kinds(self):
        self.assertEqual(plain((0, []), []), [])
        self.assertEqual(plain((0, [[], []]), []), [])

    def check(self, k, swaps, purse):
        told = plain((k, swaps), purse)
        self.assertEqual(told, left_of(stair(swaps, k), purse))
        self.assertEqual(plain((k, swaps), told), told)
        self.assertEqual(same((k, swaps), purse, told)[0], "same")
        return told

    def test_by_chance(self):
        chance = random.Random(31)
        for k, swaps in shapes(chance):
            for _ in range(4):
                one = some_purse(chance, k, range(-30, 31))
                told = self.check(k, swaps, one)
                way = sum_of(some_purse(chance, len(swaps)), swaps, k)
                self.assertEqual(self.check(k, swaps, [mine + more for mine, more in zip(one, way)]), told)
                other = some_purse(chance, k, range(-30, 31))
                alike = same((k, swaps), one, other)[0] == "same"
                self.assertIs(self.check(k, swaps, other) == told, alike)

    def test_of_great_numbers(self):
        chance = random.Random(32)
        for k, swaps in great_shapes(chance):
            one = great_purse(chance, k)
            told = self.check(k, swaps, one)
            way = sum_of(great_purse(chance, len(swaps)), swaps, k)
            self.assertEqual(self.check(k, swaps, [mine + more for mine, more in zip(one, way)]), told)
            self.check(k, swaps, great_purse(chance, k, 2500))

    def test_the_lists_are_own(self):
        chance = random.Random(33)
        for k, swaps in shapes(chance):
            check_own(self, plain, (k, swaps), some_purse(chance, k))


class TestSpan(unittest.TestCase):

    def test_told_spans(self):
        for swaps, purse, many in [([], [0, 0], 1), ([], [1, 0], 0), ([[0, 0]], [0, 5], 0), ([[0, 0]], [0, 0], 1),
                                   ([[2, -1]], [2, -1], 1), ([[2, -1]], [4, -2], 1), ([[2, -1]], [1, 0], 0),
                                   ([[4, -2]], [2, -1], 2), ([[4, -2]], [-2, 1], 2), ([[12, 0]], [8, 0], 3),
                                   ([[12, 0]], [9, 0], 4), ([[12, 0]], [-5, 0], 12), ([[12, 0]], [5, 1], 0),
                                   ([[12, 0]], [24, 0], 1), ([[2, 1], [0, 3]], [1, 0], 6),
                                   ([[2, 1], [0, 3]], [1, 2], 2),
                                   ([[2, 1], [0, 3]], [0, 1], 3), ([[4, 0], [0, 6]], [2, 3], 2),
                                   ([[4, 0], [0, 6]], [1, 1], 12), ([[4, 0], [0, 6]], [2, 2], 6),
                                   ([[1, 0], [0, 1]], [5, 7], 1), ([[0, 5]], [0, 1], 5), ([[0, 5]], [1, 0], 0)]:
            with self.subTest(swaps=swaps, purse=purse):
                self.assertEqual(span((2, swaps), purse), many)

    def test_of_no_kinds_and_of_noughts(self):
        self.assertEqual(span((0, []), []), 1)
        for k in range(9):
            self.assertEqual(span((k, []), [0] * k), 1)
            self.assertEqual(span((k, [[3] * k, [2] * k]), [0] * k), 1)

    def test_of_all_small_marts(self):
        for first, second in itertools.product(itertools.product(range(-2, 4), repeat=2), repeat=2):
            swaps = [list(first), list(second)]
            rungs = stair(swaps, 2)
            for purse in ([1, 0], [0, 1], [1, 1], [2, -3]):
                # Two such swaps come to no more than 15 worths, so no span is beyond.
                spans = [many for many in range(1, 16) if not any(left_of(rungs, [many * mine for mine in purse]))]
                self.assertEqual(span((2, swaps), purse), spans[0] if spans else 0)

    def check(self, k, swaps, purse):
        """The least one: worth nothing so often, and not where one of the span's prime parts is left out."""
        many = span((k, swaps), purse)
        rungs = stair(swaps, k)
        if many == 0:
            free = [[GREAT * 720720 * mine for mine in purse]]
            self.assertTrue(any(left_of(rungs, free[0])))
            return many
        self.assertGreaterEqual(many, 1)
        self.assertFalse(any(left_of(rungs, [many * mine for mine in purse])))
        for part in (2, 3, 5, 7, 11, 13, 17):
            if many % part == 0:
                self.assertTrue(any(left_of(rungs, [many // part * mine for mine in purse])))
        return many

    def test_by_chance(self):
        chance = random.Random(34)
        for k, swaps in shapes(chance):
            for _ in range(4):
                purse = some_purse(chance, k, range(-12, 13))
                many = self.check(k, swaps, purse)
                if 0 < many < 300:
                    rungs = stair(swaps, k)
                    for less_often in range(1, many):
                        self.assertTrue(any(left_of(rungs, [less_often * mine for mine in purse])))
                way = sum_of(some_purse(chance, len(swaps)), swaps, k)
                self.assertEqual(self.check(k, swaps, way), 1)
                other = [mine + more for mine, more in zip(purse, way)]
                self.assertEqual(self.check(k, swaps, other), many)

    def test_of_great_numbers(self):
        chance = random.Random(35)
        for k, swaps in great_shapes(chance):
            self.check(k, swaps, great_purse(chance, k))
            self.check(k, swaps, sum_of(great_purse(chance, len(swaps)), swaps, k))
            rungs = stair(swaps, k)
            self.check(k, [[6 * number for number in rung] for rung in rungs], rungs[0])
            self.assertEqual(span((k, [[6 * number for number in rung] for rung in rungs]), rungs[0]), 6)
        self.assertEqual(span((1, [[GREAT]]), [1]), GREAT)
        self.assertEqual(span((2, [[GREAT, 0], [0, GREAT + 1]]), [1, 1]), GREAT * (GREAT + 1))

    def test_the_lists_are_own(self):
        chance = random.Random(36)
        for k, swaps in shapes(chance):
            check_own(self, span, (k, swaps), some_purse(chance, k))


class TestNoFit(unittest.TestCase):

    def test_a_swap_of_another_length(self):
        for k in range(9):
            for swaps in bad_lists(k):
                with self.subTest(k=k, lengths=[len(swap) for swap in swaps]):
                    check_refused(self, plain, (k, swaps), [1] * k)
                    check_refused(self, span, (k, swaps), [1] * k)

    def test_a_purse_of_another_length(self):
        for k in range(9):
            for swaps in ([], [[1] * k], [[0] * k, [2] * k]):
                for bad in misfits(k):
                    with self.subTest(k=k, length=len(bad)):
                        check_refused(self, plain, (k, swaps), bad)
                        check_refused(self, span, (k, swaps), bad)
            if k:
                check_refused(self, plain, (k, [[1] * (k + 1)]), [1] * (k - 1))
                check_refused(self, span, (k, [[1] * (k + 1)]), [1] * (k + 1))


if __name__ == "__main__":
    unittest.main()
