"""Purses led down a stair: points 2, 3, 9, 10 and 11."""

import itertools
import random
import unittest

from samples import (GREAT, check_own, check_refused, great_purse, great_shapes, misfits, shapes, some_purse, stands,
                     sum_of)
from swapmart.rungs import is_made, is_stair, led
from swapmart.stairs import stair


def is_told_rest(rungs, rest):
    """Whether a rest has at each place from 0 to less than the lead."""
    places = [next(at for at, number in enumerate(rung) if number) for rung in rungs]
    return all(0 <= rest[at] < rung[at] for rung, at in zip(rungs, places))


class TestLed(unittest.TestCase):

    def check(self, rungs, purse):
        told = led(rungs, purse)
        self.assertIs(type(told), tuple)
        often, rest = told
        self.assertEqual((type(often), type(rest)), (list, list))
        self.assertEqual((len(often), len(rest)), (len(rungs), len(purse)))
        taken_away = sum_of(often, rungs, len(purse))
        self.assertEqual([mine - away for mine, away in zip(purse, taken_away)], rest)
        self.assertTrue(is_told_rest(rungs, rest))
        self.assertIs(is_made(rungs, purse), rest == [0] * len(purse))

    def test_told_pairs(self):
        rungs = [[2, 1, 5], [0, 3, -1]]
        for purse, often, rest in [([0, 0, 0], [0, 0], [0, 0, 0]), ([2, 1, 5], [1, 0], [0, 0, 0]),
                                   ([5, 4, 0], [2, 0], [1, 2, -10]), ([-1, 0, 0], [-1, 0], [1, 1, 5]),
                                   ([0, 3, -1], [0, 1], [0, 0, 0]), ([0, -1, 0], [0, -1], [0, 2, -1]),
                                   ([0, 0, 7], [0, 0], [0, 0, 7]), ([4, 8, 8], [2, 2], [0, 0, 0]),
                                   ([1, 3, 0], [0, 1], [1, 0, 1]), ([2, 3, 0], [1, 0], [0, 2, -5])]:
            with self.subTest(purse=purse):
                self.assertEqual(led(rungs, purse), (often, rest))

    def test_a_lead_itself_is_taken(self):
        self.assertEqual(led([[3]], [3]), ([1], [0]))
        self.assertEqual(led([[3]], [2]), ([0], [2]))
        self.assertEqual(led([[3]], [-3]), ([-1], [0]))
        self.assertEqual(led([[3]], [-1]), ([-1], [2]))
        self.assertEqual(led([[1]], [-GREAT]), ([-GREAT], [0]))

    def test_places_may_be_passed_over(self):
        self.assertEqual(led([[0, 2, 0, 7], [0, 0, 0, 9]], [-4, 5, -6, 10]), ([2, -1], [-4, 1, -6, 5]))

    def test_down_no_rows_a_purse_of_any_length(self):
        for length in range(20):
            purse = [-5] * length
            told = check_own(self, led, [], list(purse))
            self.assertEqual(told, ([], purse))
            self.assertIs(is_made([], purse), length == 0)
            self.assertIs(is_made([], [0] * length), True)

    def test_by_chance(self):
        chance = random.Random(1)
        for k, rows in shapes(chance):
            rungs = stair(rows, k)
            for _ in range(5):
                self.check(rungs, some_purse(chance, k, range(-40, 41)))
                self.check(rungs, sum_of(some_purse(chance, len(rungs)), rungs, k))

    def test_of_great_numbers(self):
        chance = random.Random(2)
        for k, rows in great_shapes(chance):
            rungs = stair(rows, k)
            self.check(rungs, great_purse(chance, k))
            self.check(rungs, great_purse(chance, k, 3000))
            made = sum_of(great_purse(chance, len(rungs)), rungs, k)
            self.check(rungs, made)
            self.assertIs(is_made(rungs, made), True)

    def test_one_pair_only(self):
        chance = random.Random(3)
        for k, rows in shapes(chance):
            rungs = stair(rows, k)
            purse = some_purse(chance, k)
            often, rest = led(rungs, purse)
            other_often = some_purse(chance, len(rungs))
            other = [mine + more for mine, more in zip(purse, sum_of(other_often, rungs, k))]
            # What is made of the rungs more changes how often, and leaves the same rest.
            self.assertEqual(led(rungs, other), ([one + more for one, more in zip(often, other_often)], rest))

    def test_the_lists_are_own(self):
        chance = random.Random(4)
        for k, rows in shapes(chance):
            check_own(self, led, stair(rows, k), some_purse(chance, k))
            check_own(self, led, stair(rows, k), [0] * k)
            check_own(self, is_made, stair(rows, k), some_purse(chance, k))


class TestIsMade(unittest.TestCase):

    def test_told(self):
        rungs = [[2, 1], [0, 3]]
        for purse, made in [([0, 0], True), ([2, 1], True), ([-2, 2], True), ([0, -6], True), ([1, 0], False),
                            ([2, 0], False), ([0, 1], False), ([4, 2], True), ([4, 1], False)]:
            self.assertIs(is_made(rungs, purse), made)
        self.assertIs(is_made([[2, 1]], [2, 4]), False)
        self.assertIs(is_made([[0, 1]], [1, 0]), False)
        self.assertIs(is_made([[1, 0]], [5, 1]), False)


class TestNoFit(unittest.TestCase):

    def test_a_purse_of_another_length(self):
        for k in range(1, 9):
            for rungs in ([[1] * k], [[0] * (k - 1) + [2]], [[1] + [0] * (k - 1)]):
                for bad in misfits(k):
                    with self.subTest(k=k, length=len(bad)):
                        check_refused(self, led, rungs, bad)
                        check_refused(self, is_made, rungs, bad)
        check_refused(self, led, [[1, 0], [0, 1]], [1, 2, 3])
        check_refused(self, led, [[1, 0], [0, 1]], [1])
        check_refused(self, is_made, [[1, 0], [0, 1]], [0, 0, 0])
        check_refused(self, is_made, [[1, 0], [0, 1]], [])


class TestIsStair(unittest.TestCase):

    def test_stairs(self):
        for rows in [[], [[1]], [[7, -3]], [[0, 5]], [[2, 1], [0, 3]], [[2, 0], [0, 3]], [[2, 2], [0, 3]],
                     [[1, -9, 0], [0, 0, 1]], [[3, 0, 8], [0, 1, -8]], [[1, 0, 0], [0, 1, 0], [0, 0, 1]],
                     [[5, 2, 1], [0, 3, 1], [0, 0, 2]], [[GREAT, GREAT - 1], [0, GREAT]]]:
            with self.subTest(rows=rows):
                self.assertIs(is_stair(rows), True)

    def test_a_row_of_noughts(self):
        for rows in [[[]], [[0]], [[0, 0]], [[1, 0], [0, 0]], [[0, 0], [1, 0]], [[1, 0], [0, 0], [0, 1]]]:
            with self.subTest(rows=rows):
                self.assertIs(is_stair(rows), False)

    def test_a_lead_below_nought(self):
        for rows in [[[-1]], [[-3, 5]], [[0, -1]], [[1, 0], [0, -1]], [[-1, 0], [0, 1]]]:
            with self.subTest(rows=rows):
                self.assertIs(is_stair(rows), False)

    def test_places_that_do_not_rise(self):
        for rows in [[[0, 1], [1, 0]], [[1, 0], [1, 0]], [[1, 0], [2, 0]], [[0, 2], [0, 3]], [[2, 0], [1, 3]],
                     [[1, 0, 0], [0, 0, 1], [0, 1, 0]], [[0, 0, 1], [1, 0, 0], [0, 1, 0]],
                     [[0, 1, 0], [0, 0, 1], [1, 0, 0]]]:
            with self.subTest(rows=rows):
                self.assertIs(is_stair(rows), False)

    def test_a_number_ahead_of_a_lead(self):
        for number, may in [(-GREAT, False), (-3, False), (-1, False), (0, True), (1, True), (2, True), (3, False),
                            (4, False), (6, False), (GREAT, False)]:
            self.assertIs(is_stair([[2, number], [0, 3]]), may)
            self.assertIs(is_stair([[2, number, 4], [0, 3, -4]]), may)
            self.assertIs(is_stair([[1, 0, number], [0, 1, 0], [0, 0, 3]]), may)
            self.assertIs(is_stair([[1, 0, 0], [0, 1, number], [0, 0, 3]]), may)
            # Of a kind without a place each number may stand.
            self.assertIs(is_stair([[1, number, 0], [0, 0, 3]]), True)

    def test_rows_of_unlike_lengths(self):
        for rows in [[[1, 0], [1]], [[1], [0, 1]], [[1, 0], [0, 1, 0]], [[1, 0, 0], [0, 1]], [[], [1]], [[1], []]]:
            with self.subTest(rows=rows):
                self.assertIs(is_stair(rows), False)

    def test_of_all_small_rows(self):
        numbers = [-1, 0, 1, 2]
        two = [list(row) for row in itertools.product(numbers, repeat=2)]
        for many in range(4):
            for rows in itertools.product(two, repeat=many):
                self.assertIs(is_stair(list(rows)), stands(list(rows)))

    def test_by_chance(self):
        chance = random.Random(5)
        for k, rows in shapes(chance):
            self.assertIs(is_stair(rows), stands(rows))
            self.assertIs(check_own(self, is_stair, stair(rows, k)), True)
            for row in range(len(stair(rows, k))):
                rungs = stair(rows, k)
                at = chance.randrange(k)
                rungs[row][at] += chance.choice([-7, -1, 1, 7])
                self.assertIs(is_stair(rungs), stands(rungs))


if __name__ == "__main__":
    unittest.main()
