"""Purses: points 2, 3, 4, 5 and 8."""

import random
import unittest

from swapmart.errors import MartError, NoFit
from swapmart.purses import less, mixed, plus, taken, weighed
from swapmart.wholes import is_whole

GREAT = 10 ** 299 + 3
NUMBERS = [0, 0, 1, -1, 2, -5, 17, -100, GREAT, -GREAT]


def some_purse(chance, k):
    return [chance.choice(NUMBERS) for _ in range(k)]


class TestSums(unittest.TestCase):

    def test_told_purses(self):
        self.assertEqual(plus([1, 0, -2], [3, 4, 5]), [4, 4, 3])
        self.assertEqual(less([1, 0, -2], [3, 4, 5]), [-2, -4, -7])
        self.assertEqual(taken([1, 0, -2], 3), [3, 0, -6])
        self.assertEqual(weighed([1, 0, -2], [3, 4, 5]), -7)

    def test_of_no_kinds(self):
        self.assertEqual(plus([], []), [])
        self.assertEqual(less([], []), [])
        self.assertEqual(taken([], 5), [])
        self.assertEqual(weighed([], []), 0)

    def test_of_each_number_of_kinds(self):
        chance = random.Random(8)
        for k in range(9):
            for _ in range(20):
                one, other = some_purse(chance, k), some_purse(chance, k)
                self.assertEqual(plus(one, other), [one[at] + other[at] for at in range(k)])
                self.assertEqual(less(one, other), [one[at] - other[at] for at in range(k)])
                products = [one[at] * other[at] for at in range(k)]
                self.assertEqual(weighed(one, other), sum(products))

    def test_taken_a_number_of_times(self):
        chance = random.Random(9)
        for k in range(9):
            purse = some_purse(chance, k)
            for many in [0, 1, -1, 2, -7, GREAT]:
                self.assertEqual(taken(purse, many), [many * number for number in purse])
            self.assertEqual(taken(purse, 0), [0] * k)
            self.assertEqual(taken(purse, 1), purse)

    def test_the_same_list_twice(self):
        purse = [2, 0, -3]
        self.assertEqual(plus(purse, purse), [4, 0, -6])
        self.assertEqual(less(purse, purse), [0, 0, 0])
        self.assertEqual(weighed(purse, purse), 13)
        self.assertEqual(mixed(purse, [purse, purse, purse], 3), [-2, 0, 3])
        self.assertEqual(purse, [2, 0, -3])

    def test_what_is_told_is_whole(self):
        for number in plus([1], [-1]) + less([1], [1]) + taken([3], 0) + mixed([], [], 2) + [weighed([], [])]:
            self.assertTrue(is_whole(number))

    def test_what_was_told_is_handed_in_again(self):
        purse = [GREAT, -GREAT, 1]
        for _ in range(4):
            purse = plus(taken(purse, GREAT), purse)
        self.assertEqual(purse, [GREAT * (GREAT + 1) ** 4, -GREAT * (GREAT + 1) ** 4, (GREAT + 1) ** 4])
        self.assertEqual(less(purse, purse), [0, 0, 0])
        self.assertEqual(weighed(purse, [1, 1, 1]), (GREAT + 1) ** 4)
        rows = [[number] for number in range(40)]
        self.assertEqual(mixed([1] * 40, rows, 1), [780])
        self.assertEqual(weighed([1] * 40, list(range(40))), 780)


class TestMixed(unittest.TestCase):

    def test_of_none(self):
        for k in range(9):
            self.assertEqual(mixed([], [], k), [0] * k)

    def test_of_one(self):
        self.assertEqual(mixed([1], [[4, -5]], 2), [4, -5])
        self.assertEqual(mixed([0], [[4, -5]], 2), [0, 0])
        self.assertEqual(mixed([-3], [[4, -5]], 2), [-12, 15])

    def test_of_some(self):
        self.assertEqual(mixed([2, -1], [[1, 0], [0, 3]], 2), [2, -3])
        self.assertEqual(mixed([1, 10, 100], [[1, 2], [3, 4], [5, 6]], 2), [531, 642])

    def test_of_no_kinds(self):
        self.assertEqual(mixed([3, GREAT], [[], []], 0), [])

    def test_of_each_number_of_kinds_and_purses(self):
        chance = random.Random(10)
        for k in range(9):
            for many in range(17):
                counts = some_purse(chance, many)
                purses = [some_purse(chance, k) for _ in range(many)]
                sums = [sum(counts[row] * purses[row][at] for row in range(many)) for at in range(k)]
                self.assertEqual(mixed(counts, purses, k), sums)


class TestOwnLists(unittest.TestCase):

    def test_a_told_list_is_a_new_one(self):
        one, other = [1, 2], [0, 0]
        for told in [plus(one, other), less(one, other), taken(one, 1), mixed([1], [one], 2),
                     mixed([1, 1], [one, other], 2)]:
            self.assertIs(type(told), list)
            self.assertEqual(told, one)
            self.assertIsNot(told, one)
            told[0] = 99
            self.assertEqual((one, other), ([1, 2], [0, 0]))

    def test_lists_of_no_kinds_are_new_ones_too(self):
        empty = []
        for told in [plus(empty, empty), less(empty, empty), taken(empty, 1), mixed([1], [empty], 0),
                     mixed(empty, empty, 0)]:
            told.append(1)
            self.assertEqual(empty, [])
        self.assertEqual(mixed([], [], 0), [])

    def test_two_calls_give_two_lists(self):
        one = [1, 2]
        calls = [lambda: plus(one, one), lambda: less(one, one), lambda: taken(one, 0), lambda: mixed([], [], 2)]
        for call in calls:
            first = call()
            kept = list(first)
            first[0] = 77
            self.assertEqual(call(), kept)

    def test_what_is_handed_in_stays(self):
        one, other, counts, purses = [1, -2], [3, GREAT], [2, -1], [[1, 0], [0, 3]]
        plus(one, other)
        less(one, other)
        taken(one, 5)
        weighed(one, other)
        mixed(counts, purses, 2)
        self.assertEqual((one, other, counts, purses), ([1, -2], [3, GREAT], [2, -1], [[1, 0], [0, 3]]))

    def test_what_is_refused_stays(self):
        one, other, counts, purses = [1, -2], [3], [2, -1], [[1, 0], [0]]
        for call in [lambda: plus(one, other), lambda: less(one, other), lambda: weighed(one, other),
                     lambda: mixed(counts, purses, 2), lambda: mixed(other, purses, 2)]:
            self.assertRaises(NoFit, call)
            self.assertEqual((one, other, counts, purses), ([1, -2], [3], [2, -1], [[1, 0], [0]]))

    def test_what_was_told_stays(self):
        one, other, counts = [1, 2], [3, 4], [1]
        purses = [one]
        told = [plus(one, other), less(one, other), taken(one, 1), mixed(counts, purses, 2)]
        one[0], other[1], counts[0] = 50, 60, 70
        purses.append([9, 9])
        one.append(8)
        self.assertEqual(told, [[4, 6], [-2, -2], [1, 2], [1, 2]])


class TestNoFit(unittest.TestCase):

    def test_unlike_lengths(self):
        pairs = [([], [0]), ([1], [1, 2]), ([1, 2], [1, 2, 0]), ([0] * 8, [0] * 7), ([1], []), ([0] * 3, [0] * 16)]
        for short, long in pairs:
            for one, other in [(short, long), (long, short)]:
                for call in (plus, less, weighed):
                    with self.subTest(call.__name__, one=one, other=other):
                        with self.assertRaises(NoFit):
                            call(one, other)
                        self.assertEqual(len(taken(one, 2)), len(one))

    def test_weights_longer_and_shorter_than_the_purse(self):
        self.assertRaises(NoFit, weighed, [1, 2], [1, 2, 3])
        self.assertRaises(NoFit, weighed, [1, 2], [1])
        self.assertRaises(NoFit, weighed, [1, 2], [])
        self.assertRaises(NoFit, weighed, [], [0])
        self.assertEqual(weighed([1, 2], [1, 2]), 5)

    def test_counts_not_as_many_as_the_purses(self):
        purses = [[1, 2], [3, 4]]
        for counts in [[], [1], [1, 1, 1], [0, 0, 0]]:
            self.assertRaises(NoFit, mixed, counts, purses, 2)
        self.assertRaises(NoFit, mixed, [1], [], 2)
        self.assertRaises(NoFit, mixed, [], [[0, 0]], 2)
        self.assertRaises(NoFit, mixed, [], [[]], 0)
        self.assertEqual(mixed([1, 1], purses, 2), [4, 6])

    def test_a_purse_mixed_that_has_not_k_numbers(self):
        for k in range(9):
            for bad in [[0] * (k + 1), [1] * 16] + ([[0] * (k - 1), []] if k else []):
                for at in range(3):
                    purses = [[1] * k, [2] * k, [3] * k]
                    self.assertEqual(mixed([1, 1, 1], purses, k), [6] * k)
                    purses[at] = bad
                    with self.subTest(k=k, at=at, length=len(bad)):
                        self.assertRaises(NoFit, mixed, [1, 1, 1], purses, k)
                        self.assertRaises(NoFit, mixed, [0, 0, 0], purses, k)

    def test_purses_alike_but_not_of_k_numbers(self):
        self.assertRaises(NoFit, mixed, [1, 1], [[1, 2], [3, 4]], 3)
        self.assertRaises(NoFit, mixed, [1, 1], [[1, 2], [3, 4]], 1)
        self.assertRaises(NoFit, mixed, [1], [[1]], 0)
        self.assertRaises(NoFit, mixed, [1], [[]], 1)
        self.assertEqual(mixed([1, 1], [[1, 2], [3, 4]], 2), [4, 6])

    def test_it_is_caught_as_any_refusal(self):
        self.assertRaises(MartError, plus, [1], [])
        self.assertRaises(ValueError, mixed, [1], [], 0)


if __name__ == "__main__":
    unittest.main()
