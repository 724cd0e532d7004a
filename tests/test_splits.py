"""Stocks that split off and stocks that are bound: points 2, 3, 15 and 26."""

import itertools
import math
import random
import unittest

from samples import (GREAT, bad_lists, check_dial, check_own, check_refused, great_rows, great_shapes, made_of, moved,
                     shapes, singles, some_purse, some_rows, sum_of)
from swapmart.meets import met
from swapmart.splits import split_off
from swapmart.stairs import stair
from swapmart.stocks import stock


def often(many, rows):
    return [[many * number for number in row] for row in rows]


class TestSplitOff(unittest.TestCase):

    def check_splits(self, mart, purses, told):
        k, swaps = mart
        self.assertEqual(len(told), 2)
        others = told[1]
        self.assertIs(type(others), list)
        self.assertTrue(all(type(purse) is list and len(purse) == k for purse in others))
        self.assertLessEqual(len(others), k)
        self.assertEqual(stair(swaps + purses + others, k), singles(k))
        self.assertEqual(met(stock(mart, purses), stock(mart, others), k), stair(swaps, k))

    def check_bound(self, mart, purses, told):
        k, swaps = mart
        _, many, purse, root, weights, modulus = told
        self.assertGreaterEqual(many, 2)
        self.assertEqual((type(purse), type(root), len(purse), len(root)), (list, list, k, k))
        self.assertTrue(made_of(stair(swaps + purses, k), purse))
        self.assertTrue(made_of(stair(swaps, k), [mine - many * own for mine, own in zip(purse, root)]))
        check_dial(self, weights, modulus, swaps + often(many, purses), purse)

    def check(self, mart, purses):
        """What is told, by its own words; as the two shut out one another, it is the one there is."""
        told = split_off(mart, purses)
        self.assertIs(type(told), tuple)
        self.assertIn(told[0], ("splits", "bound"))
        if told[0] == "splits":
            self.check_splits(mart, purses, told)
        else:
            self.check_bound(mart, purses, told)
        return told

    def test_told(self):
        for k, swaps, purses, word in [
                (0, [], [], "splits"), (0, [[]], [[], []], "splits"), (1, [], [], "splits"), (1, [], [[1]], "splits"),
                (1, [], [[-1]], "splits"), (1, [], [[2]], "bound"), (1, [], [[0]], "splits"), (1, [], [[4], [6]], "bound"),
                (1, [], [[4], [9]], "splits"), (1, [[6]], [[2]], "splits"), (1, [[6]], [[3]], "splits"),
                (1, [[4]], [[2]], "bound"), (1, [[12]], [[4]], "splits"), (1, [[12]], [[2]], "bound"),
                (1, [[12]], [[6]], "bound"), (1, [[12]], [[3]], "splits"), (1, [[12]], [[5]], "splits"),
                (2, [], [[1, 0]], "splits"), (2, [], [[2, 3]], "splits"), (2, [], [[2, 4]], "bound"),
                (2, [[2, 0]], [[1, 0]], "splits"), (2, [[2, 0]], [[0, 1]], "splits"), (2, [[2, 0]], [[1, 1]], "splits"),
                (2, [[2, 0]], [[0, 2]], "bound"), (2, [[2, 0]], [[1, 2]], "bound"), (2, [[4, 0]], [[2, 1]], "splits"),
                (2, [[4, 0], [0, 2]], [[2, 1]], "splits"), (2, [[4, 0], [0, 2]], [[2, 0]], "bound"),
                (2, [[4, 0], [0, 2]], [[1, 1]], "splits"), (2, [[2, 0], [0, 8]], [[1, 2]], "bound"),
                (2, [[2, 0], [0, 8]], [[1, 4]], "splits"), (2, [[2, 0], [0, 4]], [[1, 2]], "splits"),
                (2, [[6, 0]], [[3, 0]], "splits"), (2, [[4, 0]], [[2, 0]], "bound")]:
            with self.subTest(k=k, swaps=swaps, purses=purses):
                self.assertEqual(self.check((k, swaps), purses)[0], word)
        self.assertEqual(split_off((0, []), []), ("splits", []))

    def test_of_one_kind(self):
        # A stock of d tokens, d a part of n, splits off just where d and what is left of n share nothing.
        for whole, token in itertools.product(range(1, 31), range(31)):
            part = math.gcd(whole, token)
            word = "splits" if math.gcd(part, whole // part) == 1 else "bound"
            self.assertEqual(self.check((1, [[whole]]), [[token]])[0], word)
        for token in range(-9, 10):
            self.assertEqual(self.check((1, []), [[token]])[0], "bound" if abs(token) > 1 else "splits")

    def test_of_all_stocks_of_small_marts(self):
        words = []
        for one, other in itertools.product((1, 2, 4, 6, 8), repeat=2):
            mart = (2, [[one, 0], [0, other]])
            for first, second in itertools.product(range(-1, one), range(-1, other)):
                words.append(self.check(mart, [[first, second]])[0])
                words.append(self.check(mart, [[first, second], [2, 2]])[0])
        self.assertEqual(set(words), {"splits", "bound"})

    def test_without_purses_and_with_all_single_tokens(self):
        chance = random.Random(161)
        for k, swaps in shapes(chance):
            mart = (k, swaps)
            for purses in ([], swaps, [[0] * k], singles(k), singles(k) + swaps,
                           [moved(chance, token, swaps) for token in singles(k)]):
                self.assertEqual(self.check(mart, purses)[0], "splits")
            self.assertEqual(split_off(mart, singles(k)), ("splits", []))

    def test_by_chance(self):
        chance = random.Random(162)
        words = []
        for k, swaps in shapes(chance):
            for many in (1, 2, 5, 16):
                words.append(self.check((k, swaps), some_rows(chance, many, k))[0])
                words.append(self.check((k, swaps[:2]), some_rows(chance, many, k)[:4])[0])
                words.append(self.check((k, often(12, swaps)), often(4, swaps[:many]))[0])
        self.assertEqual(set(words), {"splits", "bound"})

    def test_of_what_was_told_to_split_off(self):
        # The others split off, too, and what is told of them does the same again.
        chance = random.Random(163)
        for k, swaps in shapes(chance):
            told = self.check((k, swaps), some_rows(chance, 1, k))
            if told[0] == "splits":
                self.assertEqual(self.check((k, swaps), told[1])[0], "splits")

    def test_purses_and_swaps_told_otherwise(self):
        chance = random.Random(164)
        for k, swaps in shapes(chance):
            purses = some_rows(chance, 3, k)
            word = self.check((k, swaps), purses)[0]
            other_swaps = swaps[::-1] + [sum_of(some_purse(chance, len(swaps)), swaps, k)]
            other_purses = [moved(chance, purse, swaps) for purse in purses[::-1]] + [moved(chance, purses[0], purses)]
            self.assertEqual(self.check((k, other_swaps), other_purses)[0], word)
            self.assertEqual(self.check((k, stair(swaps, k)), stock((k, swaps), purses))[0], word)

    def test_of_parts_of_one_mart(self):
        """In a mart of some purses and others that share nothing but what is worth nothing, the purses split off."""
        chance = random.Random(165)
        for k in range(2, 9):
            turned = some_rows(chance, k, k, [0, 1, -1])
            for at, row in enumerate(turned):
                # Below the leads nothing is left, so the rows make each single token.
                turned[at] = [0] * at + [1] + row[at + 1:]
            sizes = [chance.choice([0, 1, 2, 4, 6, 9]) for _ in range(k)]
            swaps = [[size * number for number in row] for size, row in zip(sizes, turned)]
            for many in range(k + 1):
                self.assertEqual(self.check((k, swaps), turned[:many])[0], "splits")
                self.assertEqual(self.check((k, swaps[::-1]), turned[many:])[0], "splits")

    def test_of_great_numbers(self):
        chance = random.Random(166)
        words = []
        for k, swaps in great_shapes(chance):
            words.append(self.check((k, swaps), great_rows(chance, 1, k))[0])
            words.append(self.check((k, swaps[:k // 2]), great_rows(chance, 16, k))[0])
            words.append(self.check((k, often(6, stair(swaps, k))), often(2, swaps))[0])
            words.append(self.check((k, often(6, swaps)), often(3, stair(swaps, k)))[0])
            words.append(self.check((k, often(12, swaps)), often(6, swaps))[0])
            words.append(self.check((k, []), swaps)[0])
        self.assertEqual(set(words), {"splits", "bound"})
        self.assertEqual(self.check((1, [[GREAT ** 2]]), [[GREAT]])[0], "bound")
        self.assertEqual(self.check((1, [[GREAT * (GREAT + 1)]]), [[GREAT]])[0], "splits")

    def test_the_lists_are_own(self):
        chance = random.Random(167)
        for k, swaps in shapes(chance):
            check_own(self, split_off, (k, swaps), some_rows(chance, 2, k))
            check_own(self, split_off, (k, swaps), [])
        row = [2, 0]
        check_own(self, split_off, (2, [row, row]), [row])
        check_own(self, split_off, (2, []), [row, row])


class TestNoFit(unittest.TestCase):

    def test_a_swap_or_a_purse(self):
        for k in range(9):
            for bad in bad_lists(k):
                for good in ([], [[2] * k], singles(k)):
                    with self.subTest(k=k, lengths=[len(row) for row in bad]):
                        check_refused(self, split_off, (k, bad), good)
                        check_refused(self, split_off, (k, good), bad)
                        check_refused(self, split_off, (k, bad), bad)

    def test_two_whose_lengths_make_up_for_one_another(self):
        for k in range(1, 9):
            for one, other in ((k - 1, k + 1), (k + 1, k - 1)):
                check_refused(self, split_off, (k, [[1] * one]), [[1] * other])
                check_refused(self, split_off, (k, [[1] * one, [1] * other]), [])
                check_refused(self, split_off, (k, []), [[1] * one, [1] * other])


if __name__ == "__main__":
    unittest.main()
