"""How many worths a mart has, and which: points 2, 3, 15 and 18."""

import itertools
import random
import unittest

from samples import (GREAT, bad_lists, check_own, check_refused, great_shapes, left_of, product_of, shapes, single,
                     some_purse, some_rows, sum_of)
from swapmart.counts import all_worths, many_worths
from swapmart.errors import TooMany
from swapmart.stairs import stair
from swapmart.wheels import wheels
from swapmart.worths import plain


class TestManyWorths(unittest.TestCase):

    def test_told_numbers(self):
        for k, swaps, many in [(0, [], 1), (0, [[], []], 1), (1, [], 0), (1, [[0]], 0), (1, [[1]], 1), (1, [[-5]], 5),
                               (1, [[4], [6]], 2), (2, [[2, 0]], 0), (2, [[0, 2]], 0), (2, [[2, 1], [0, 3]], 6),
                               (2, [[2, 4], [1, 2]], 0), (2, [[1, 2], [3, 4]], 2), (2, [[1, 0], [0, 1]], 1),
                               (3, [[2, 0, 0], [0, 2, 0], [0, 0, 2]], 8), (3, [[2, 0, 0], [0, 2, 0]], 0),
                               (2, [[GREAT, 0], [1, GREAT]], GREAT ** 2)]:
            with self.subTest(k=k, swaps=swaps):
                self.assertEqual(many_worths((k, swaps)), many)

    def test_it_is_all_sizes_multiplied(self):
        chance = random.Random(61)
        for k, swaps in itertools.chain(shapes(chance), great_shapes(chance)):
            self.assertEqual(many_worths((k, swaps)), product_of(wheels((k, swaps))[0]))

    def test_of_single_tokens(self):
        for k in range(9):
            self.assertEqual(many_worths((k, [single(k, kind) for kind in range(k)])), 1)
            self.assertEqual(many_worths((k, [])), 0 if k else 1)

    def test_the_same_for_one_stair(self):
        chance = random.Random(62)
        for k, swaps in shapes(chance):
            mingled = swaps[::-1] + [sum_of(some_purse(chance, len(swaps)), swaps, k)]
            self.assertEqual(many_worths((k, mingled)), many_worths((k, swaps)))

    def test_nothing_is_changed(self):
        chance = random.Random(63)
        for k, swaps in shapes(chance):
            check_own(self, many_worths, (k, swaps))


class TestAllWorths(unittest.TestCase):

    def check(self, mart):
        k, swaps = mart
        told = all_worths(mart)
        self.assertIs(type(told), list)
        self.assertTrue(all(type(purse) is list and len(purse) == k for purse in told))
        self.assertEqual(len(told), product_of(wheels(mart)[0]))
        self.assertTrue(all(one < other for one, other in itertools.pairwise(told)))
        rungs = stair(swaps, k)
        for purse in told:
            self.assertEqual(left_of(rungs, purse), purse)
            self.assertEqual(plain(mart, purse), purse)
        return told

    def test_told_lists(self):
        for k, swaps, told in [(0, [], [[]]), (0, [[]], [[]]), (1, [[1]], [[0]]), (1, [[-3]], [[0], [1], [2]]),
                               (1, [[4], [6]], [[0], [1]]), (2, [[1, 0], [0, 1]], [[0, 0]]),
                               (2, [[2, 1], [0, 3]], [[0, 0], [0, 1], [0, 2], [1, 0], [1, 1], [1, 2]]),
                               (2, [[3, 0], [0, 2]], [[0, 0], [0, 1], [1, 0], [1, 1], [2, 0], [2, 1]]),
                               (3, [[1, 1, 1], [0, 2, 0], [0, 0, 2]], [[0, 0, 0], [0, 0, 1], [0, 1, 0], [0, 1, 1]])]:
            with self.subTest(k=k, swaps=swaps):
                self.assertEqual(self.check((k, swaps)), told)

    def test_by_chance(self):
        chance = random.Random(64)
        refused = 0
        for k, swaps in list(shapes(chance)) + [(2, some_rows(chance, 3, 2, range(-9, 10))) for _ in range(60)]:
            if 1 <= many_worths((k, swaps)) <= 200:
                self.check((k, swaps))
            else:
                refused += 1
                self.assertRaises(TooMany, all_worths, (k, swaps))
        self.assertGreater(refused, 5)

    def test_each_purse_has_its_worth_there(self):
        chance = random.Random(65)
        for swaps in [[[2, 1], [0, 3]], [[6, 4], [2, 8]], [[5, 0], [3, 7]], [[1, 100], [0, 150]]]:
            told = self.check((2, swaps))
            for _ in range(40):
                self.assertEqual(told.count(plain((2, swaps), some_purse(chance, 2, range(-99, 100)))), 1)

    def test_two_hundred_are_not_too_many(self):
        for k, swaps in [(1, [[200]]), (2, [[10, 3], [0, 20]]), (2, [[1, 77], [0, 200]]), (2, [[200, 0], [0, 1]]),
                         (3, [[2, 1, 1], [0, 10, 3], [0, 0, 10]])]:
            self.assertEqual(len(self.check((k, swaps))), 200)

    def test_more_than_two_hundred(self):
        for k, swaps in [(1, [[201]]), (1, [[-201]]), (2, [[3, 0], [0, 67]]), (2, [[GREAT, 0], [0, GREAT]]),
                         (8, [[2 if at == kind else 0 for at in range(8)] for kind in range(8)])]:
            with self.assertRaises(TooMany) as caught:
                all_worths((k, swaps))
            self.assertIs(type(caught.exception), TooMany)

    def test_worths_that_do_not_end(self):
        for k in range(1, 9):
            for swaps in ([], [[0] * k], [single(k, kind) for kind in range(k - 1)],
                          [single(k, kind) for kind in range(1, k)]):
                self.assertRaises(TooMany, all_worths, (k, swaps))
        self.assertRaises(TooMany, all_worths, (2, [[2, 4], [1, 2]]))

    def test_the_lists_are_own(self):
        twos = [[2 if at == kind else 0 for at in range(8)] for kind in range(8)]
        for k, swaps in [(0, []), (1, [[5]]), (2, [[2, 1], [0, 3]]), (3, [[1, 1, 1], [0, 2, 0], [0, 0, 2]]),
                         (8, twos + [[1] * 8, [0, 1] * 4])]:
            check_own(self, all_worths, (k, swaps))

    def test_the_worths_are_handed_in_again(self):
        mart = (2, [[10, 3], [0, 20]])
        told = all_worths(mart)
        self.assertEqual(all_worths((2, told)), [[0, 0]])
        self.assertEqual(many_worths((2, [[3 * number for number in purse] for purse in told])), 9)


class TestNoFit(unittest.TestCase):

    def test_a_swap_of_another_length(self):
        for k in range(9):
            # The good ones alone end nowhere, or in more than 200 worths.
            for good in ([], [[300 if at == kind else 0 for at in range(k)] for kind in range(k)]):
                for swaps in bad_lists(k):
                    with self.subTest(k=k, lengths=[len(swap) for swap in swaps]):
                        check_refused(self, many_worths, (k, good + swaps))
                        check_refused(self, all_worths, (k, good + swaps))
                        check_refused(self, all_worths, (k, swaps + good))


if __name__ == "__main__":
    unittest.main()
