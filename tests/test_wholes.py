"""Whole numbers: points 2, 3 and 7."""

import math
import random
import unittest
from fractions import Fraction

from swapmart.wholes import is_whole, round_by, shared

GREAT = 10 ** 299 + 7


def fibonacci_pair(figures):
    """Two neighbours for which the shared one takes the most steps."""
    one, other = 1, 1
    while len(str(other)) < figures:
        one, other = other, one + other
    return one, other


class TestIsWhole(unittest.TestCase):

    def test_ints_are_whole(self):
        for thing in [0, 1, -1, 7, -12, 2 ** 64, GREAT, -GREAT, 10 ** 3999]:
            with self.subTest(len(str(thing))):
                self.assertIs(is_whole(thing), True)

    def test_truths_are_not(self):
        self.assertIs(is_whole(True), False)
        self.assertIs(is_whole(False), False)

    def test_other_things_are_not(self):
        things = [None, "", "0", "12", b"1", 0.0, 1.0, 1.5, float("inf"), float("nan"), 1j, Fraction(2),
                  [], [1], (), (1,), {}, {1: 1}, set(), {1}, range(3), object(), int, len, NotImplemented]
        for thing in things:
            with self.subTest(repr(thing)):
                self.assertIs(is_whole(thing), False)


class TestShared(unittest.TestCase):

    def check(self, one, other):
        told = shared(one, other)
        self.assertIs(type(told), tuple)
        self.assertEqual(len(told), 3)
        for number in told:
            self.assertTrue(is_whole(number))
        d, a, b = told
        self.assertEqual(d, math.gcd(one, other))
        self.assertEqual(d, a * one + b * other)
        self.assertEqual(shared(one, other), told)

    def check_all_signs(self, one, other):
        for first, second in [(one, other), (other, one)]:
            for sign in (1, -1):
                for turn in (1, -1):
                    with self.subTest(first=sign * first, second=turn * second):
                        self.check(sign * first, turn * second)

    def test_of_noughts(self):
        self.assertEqual(shared(0, 0)[0], 0)
        self.check(0, 0)

    def test_of_nought_and_another_one(self):
        for other in [1, 2, 9, GREAT]:
            self.check_all_signs(0, other)
        self.assertEqual(shared(0, -5)[0], 5)
        self.assertEqual(shared(-5, 0)[0], 5)

    def test_of_a_number_and_itself(self):
        for one in [1, 2, 6, GREAT]:
            self.check_all_signs(one, one)

    def test_where_one_divides_the_other(self):
        for one, other in [(1, 7), (3, 12), (4, 100), (GREAT, 6 * GREAT), (7, 7 * 10 ** 298)]:
            self.check_all_signs(one, other)

    def test_of_small_numbers(self):
        for one in range(-13, 14):
            for other in range(-13, 14):
                self.check(one, other)

    def test_of_numbers_of_many_figures(self):
        chance = random.Random(7)
        for figures in (5, 20, 80, 300):
            for _ in range(10):
                common = chance.randrange(1, 10 ** (figures // 3))
                one = common * chance.randrange(10 ** (2 * figures // 3))
                other = common * chance.randrange(10 ** (2 * figures // 3))
                self.check_all_signs(one, other)

    def test_where_it_takes_the_most_steps(self):
        one, other = fibonacci_pair(300)
        self.check_all_signs(one, other)
        self.check_all_signs(12 * one, 12 * other)

    def test_of_numbers_beyond_what_is_handed_in_first(self):
        one, other = fibonacci_pair(2000)
        self.check_all_signs(one, other)


class TestRoundBy(unittest.TestCase):

    NUMBERS = [0, 1, 2, 3, 11, 12, 13, 10 ** 40, GREAT, 10 ** 3000]

    def numbers(self):
        return [sign * many for many in self.NUMBERS for sign in (1, -1)]

    def test_of_size_nought_it_stays(self):
        for many in self.numbers():
            self.assertEqual(round_by(many, 0), many)

    def test_of_size_one_it_is_nought(self):
        for many in self.numbers():
            self.assertEqual(round_by(many, 1), 0)

    def test_of_a_size_it_is_the_rest(self):
        for many in self.numbers():
            for size in [2, 3, 12, 10 ** 40, GREAT]:
                rest = round_by(many, size)
                self.assertTrue(is_whole(rest))
                self.assertTrue(0 <= rest < size)
                self.assertEqual((many - rest) % size, 0)

    def test_told_numbers(self):
        for many, size, rest in [(7, 3, 1), (-7, 3, 2), (-3, 3, 0), (3, 3, 0), (-1, 12, 11), (5, 8, 5), (-5, 8, 3)]:
            self.assertEqual(round_by(many, size), rest)


if __name__ == "__main__":
    unittest.main()
