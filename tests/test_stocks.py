"""The stock of some purses at a mart: points 2, 3, 15, 19 and 20."""

import random
import unittest

from samples import (GREAT, bad_lists, check_own, check_refused, divides, great_purse, great_rows, great_shapes,
                     left_of, misfits, shapes, some_purse, some_rows, stands, sum_of, weight_of)
from swapmart.stairs import stair
from swapmart.stocks import stock, within


class TestStock(unittest.TestCase):

    def test_told_stocks(self):
        for swaps, purses, rungs in [([], [], []), ([[4, 0]], [], [[4, 0]]), ([], [[4, 0]], [[4, 0]]),
                                     ([[4, 0]], [[6, 0]], [[2, 0]]), ([[2, 1]], [[0, -3]], [[2, 1], [0, 3]]),
                                     ([[2, 1]], [[1, 0]], [[1, 0], [0, 1]]), ([[0, 0]], [[0, 0]], []),
                                     ([[2, 0], [0, 2]], [[1, 1]], [[1, 1], [0, 2]])]:
            with self.subTest(swaps=swaps, purses=purses):
                self.assertEqual(stock((2, swaps), purses), rungs)

    def test_it_is_the_stair_of_purses_and_swaps(self):
        chance = random.Random(71)
        for k, swaps in shapes(chance):
            for many in (0, 1, 3, 8):
                purses = some_rows(chance, many, k)
                rungs = stock((k, swaps), purses)
                self.assertTrue(stands(rungs))
                self.assertEqual(rungs, stair(purses + swaps, k))
                self.assertEqual(stock((k, purses), swaps), rungs)
                self.assertEqual(stock((k, []), swaps + purses), rungs)
                for row in purses + swaps:
                    self.assertFalse(any(left_of(rungs, row)))

    def test_of_no_purses(self):
        chance = random.Random(72)
        for k, swaps in shapes(chance):
            self.assertEqual(stock((k, swaps), []), stair(swaps, k))
            self.assertEqual(stock((k, []), []), [])

    def test_two_lists_of_one_stock(self):
        chance = random.Random(73)
        for k, swaps in shapes(chance):
            purses = some_rows(chance, 3, k)
            rungs = stock((k, swaps), purses)
            moved = [[mine + more for mine, more in zip(purse, sum_of(some_purse(chance, len(swaps)), swaps, k))]
                     for purse in purses]
            self.assertEqual(stock((k, swaps), moved), rungs)
            self.assertEqual(stock((k, swaps), moved[::-1] + purses), rungs)

    def test_of_great_numbers(self):
        chance = random.Random(74)
        for k, swaps in great_shapes(chance):
            purses = great_rows(chance, 2, k)
            self.assertEqual(stock((k, swaps), purses), stair(swaps + purses, k))

    def test_the_lists_are_own(self):
        chance = random.Random(75)
        for k, swaps in shapes(chance):
            check_own(self, stock, (k, swaps), some_rows(chance, 2, k))
        row = [1, 2]
        check_own(self, stock, (2, [row, row]), [row])


class TestWithin(unittest.TestCase):

    def check(self, mart, purses, purse):
        """What is told, by sums; and which one of the two there is, by the stair."""
        k, swaps = mart
        told = within(mart, purses, purse)
        self.assertIs(type(told), tuple)
        self.assertEqual(len(told), 3)
        if any(left_of(stair(purses + swaps, k), purse)):
            word, weights, modulus = told
            self.assertEqual((word, type(weights), len(weights)), ("without", list, k))
            self.assertTrue(all(divides(modulus, weight_of(row, weights)) for row in purses + swaps))
            self.assertFalse(divides(modulus, weight_of(purse, weights)))
        else:
            word, counts, swap_counts = told
            self.assertEqual((word, type(counts), type(swap_counts)), ("within", list, list))
            made = [mine + more for mine, more in zip(sum_of(counts, purses, k), sum_of(swap_counts, swaps, k))]
            self.assertEqual(made, purse)
        return told

    def test_told(self):
        for swaps, purses, purse, word in [
                ([], [], [0, 0], "within"), ([], [], [0, 1], "without"),
                ([[2, 0]], [], [4, 0], "within"), ([[2, 0]], [], [3, 0], "without"),
                ([], [[2, 0]], [4, 0], "within"), ([], [[2, 0]], [0, 1], "without"),
                ([[4, 0]], [[6, 0]], [2, 0], "within"), ([[4, 0]], [[6, 0]], [1, 0], "without"),
                ([[2, 1]], [[0, 3]], [2, -2], "within"), ([[2, 1]], [[0, 3]], [2, 2], "without"),
                ([[0, 0]], [[0, 0]], [0, 0], "within"), ([[0, 0]], [[0, 0]], [1, 0], "without")]:
            with self.subTest(swaps=swaps, purses=purses, purse=purse):
                self.assertEqual(self.check((2, swaps), purses, purse)[0], word)
        self.assertEqual(within((2, [[0, 1]]), [[1, 0]], [5, -7]), ("within", [5], [-7]))
        self.assertEqual(within((2, [[0, 1]]), [[1, 0], [0, 0]], [5, -7])[1][0], 5)
        self.assertEqual(within((2, []), [[0, 1], [1, 0]], [5, -7]), ("within", [-7, 5], []))
        self.assertEqual(within((2, [[0, 1], [1, 0]]), [], [5, -7]), ("within", [], [-7, 5]))

    def test_of_no_kinds(self):
        self.assertEqual(self.check((0, []), [], []), ("within", [], []))
        self.check((0, [[]]), [[], []], [])

    def test_by_chance(self):
        chance = random.Random(76)
        words = []
        for k, swaps in shapes(chance):
            for many in (0, 1, 2, 5):
                purses = some_rows(chance, many, k)
                made = [mine + more for mine, more in zip(sum_of(some_purse(chance, many), purses, k),
                                                          sum_of(some_purse(chance, len(swaps)), swaps, k))]
                self.assertEqual(self.check((k, swaps), purses, made)[0], "within")
                words.append(self.check((k, swaps), purses, some_purse(chance, k, range(-30, 31)))[0])
                for purse in purses + swaps:
                    self.assertEqual(self.check((k, swaps), purses, purse)[0], "within")
        self.assertEqual(set(words), {"within", "without"})

    def test_of_great_numbers(self):
        chance = random.Random(77)
        for k, swaps in great_shapes(chance):
            purses = great_rows(chance, 3, k)
            for own, other in ((purses, swaps), (swaps, purses), (swaps[:3], [])):
                made = [mine + more for mine, more in zip(sum_of(great_purse(chance, len(own)), own, k),
                                                          sum_of(great_purse(chance, len(other)), other, k))]
                told = self.check((k, other), own, made)
                self.assertEqual(told[0], "within")
                self.assertTrue(all(abs(number) < 10 ** 4000 for number in told[1] + told[2]))
                made[0] += 1
                self.check((k, other), own, made)

    def test_what_was_told_is_handed_in_again(self):
        chance = random.Random(78)
        for k, swaps in great_shapes(chance):
            rungs = stock((k, swaps), great_rows(chance, 1, k))
            for rung in rungs[-2:]:
                often = [GREAT * number for number in rung]
                self.assertEqual(self.check((k, rungs[:1]), rungs[1:], often)[0], "within")

    def test_the_lists_are_own(self):
        chance = random.Random(79)
        for k, swaps in shapes(chance):
            purses = some_rows(chance, 3, k)
            check_own(self, within, (k, swaps), purses, some_purse(chance, k))
            check_own(self, within, (k, swaps), purses, list(purses[0]))
            check_own(self, within, (k, swaps), [], [0] * k)


class TestNoFit(unittest.TestCase):

    def test_a_swap_or_a_purse_of_a_list(self):
        for k in range(9):
            for bad in bad_lists(k):
                for good in ([], [[1] * k]):
                    with self.subTest(k=k, lengths=[len(row) for row in bad]):
                        check_refused(self, stock, (k, bad), good)
                        check_refused(self, stock, (k, good), bad)
                        check_refused(self, within, (k, bad), good, [1] * k)
                        check_refused(self, within, (k, good), bad, [1] * k)

    def test_the_purse_asked(self):
        for k in range(9):
            for bad in misfits(k):
                for swaps, purses in (([], []), ([[1] * k], []), ([], [[1] * k]), ([[1] * k], [[2] * k])):
                    check_refused(self, within, (k, swaps), purses, bad)

    def test_two_whose_lengths_make_up_for_one_another(self):
        for k in range(1, 9):
            for one, other in ((k - 1, k + 1), (k + 1, k - 1)):
                check_refused(self, stock, (k, [[1] * one]), [[1] * other])
                check_refused(self, within, (k, [[1] * one]), [[1] * other], [0] * k)
                check_refused(self, within, (k, [[1] * one]), [], [1] * other)
                check_refused(self, within, (k, []), [[1] * one], [1] * other)


if __name__ == "__main__":
    unittest.main()
