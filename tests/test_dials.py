"""Silent dials and hushed purses: points 2, 3, 15, 27 and 28."""

import itertools
import math
import random
import unittest

from samples import (GREAT, bad_lists, check_own, check_refused, check_stair, great_rows, great_shapes, leads_of,
                     made_of, shapes, singles, some_purse, some_rows, sum_of, weight_of)
from swapmart.counts import many_worths
from swapmart.dials import hushed, round_of, silent
from swapmart.errors import Endless
from swapmart.meets import beside, joined, met
from swapmart.stairs import stair
from swapmart.stocks import stock
from swapmart.wheels import wheels
from swapmart.worths import span


def ending(chance):
    """Marts of many shapes whose worths end."""
    for k, swaps in shapes(chance):
        size = chance.choice([1, 2, 4, 6, 12])
        yield k, swaps[:8] + [[size * number for number in token] for token in singles(k)]
        if len(stair(swaps, k)) == k:
            yield k, swaps


def great_ending(chance):
    for k, swaps in great_shapes(chance):
        if len(stair(swaps, k)) == k:
            yield k, swaps
        yield k, [row for row in swaps[:4]] + [[GREAT * number for number in token] for token in singles(k)]


def endless(chance):
    for k in range(1, 9):
        yield k, []
        yield k, [[0] * k]
        yield k, some_rows(chance, k - 1, k)
        yield k, [token for token in singles(k)[1:]]
        yield k, [sum_of(some_purse(chance, k - 1), rows, k) for rows in [some_rows(chance, k - 1, k)] for _ in range(9)]


class TestRoundOf(unittest.TestCase):

    def test_told_rounds(self):
        for k, swaps, many in [(0, [], 1), (0, [[], []], 1), (1, [[1]], 1), (1, [[-5]], 5), (1, [[4], [6]], 2),
                               (2, [[1, 0], [0, 1]], 1), (2, [[2, 1], [0, 3]], 6), (2, [[2, 0], [0, 3]], 6),
                               (2, [[2, 0], [0, 2]], 2), (2, [[4, 0], [0, 6]], 12), (2, [[1, 2], [3, 4]], 2),
                               (3, [[2, 0, 0], [0, 3, 0], [0, 0, 5]], 30), (2, [[GREAT, 0], [0, GREAT]], GREAT)]:
            with self.subTest(k=k, swaps=swaps):
                self.assertEqual(round_of((k, swaps)), many)

    def test_it_makes_each_purse_worth_nothing_and_no_less_does(self):
        chance = random.Random(171)
        for k, swaps in itertools.chain(ending(chance), great_ending(chance)):
            mart = (k, swaps)
            told = round_of(mart)
            spans = [span(mart, token) for token in singles(k)]
            self.assertEqual(told, math.lcm(*spans))
            sizes = wheels(mart)[0]
            self.assertEqual(told, sizes[-1] if sizes else 1)
            rungs = stair(swaps, k)
            self.assertTrue(all(made_of(rungs, [told * number for number in token]) for token in singles(k)))

    def test_endless(self):
        chance = random.Random(172)
        for mart in endless(chance):
            with self.assertRaises(Endless) as caught:
                round_of(mart)
            self.assertIs(type(caught.exception), Endless)

    def test_nothing_is_changed(self):
        chance = random.Random(173)
        for mart in ending(chance):
            check_own(self, round_of, mart)


class TestSilent(unittest.TestCase):

    def test_told_stairs(self):
        for k, swaps, purses, told in [
                (0, [], [], []), (0, [[]], [[]], []), (1, [[1]], [], [[1]]), (1, [[6]], [], [[1]]),
                (1, [[6]], [[2]], [[3]]), (1, [[6]], [[4]], [[3]]), (1, [[6]], [[1]], [[6]]), (1, [[6]], [[0]], [[1]]),
                (2, [[2, 0], [0, 3]], [], [[3, 0], [0, 2]]), (2, [[2, 0], [0, 2]], [[1, 1]], [[1, 1], [0, 2]]),
                (2, [[2, 0], [0, 2]], [[1, 0]], [[2, 0], [0, 1]]), (2, [[2, 1], [0, 3]], [], [[1, 4], [0, 6]]),
                (2, [[1, 2], [0, 5]], [], [[1, 2], [0, 5]])]:
            with self.subTest(k=k, swaps=swaps, purses=purses):
                self.assertEqual(silent((k, swaps), purses), told)

    def test_each_small_dial(self):
        for swaps in ([[2, 0], [0, 3]], [[2, 1], [0, 3]], [[4, 2], [0, 2]], [[1, 3], [0, 7]], [[2, 0], [0, 2]],
                      [[1, 0], [0, 1]], [[3, 1], [1, 3]]):
            for purses in ([], [[1, 0]], [[1, 1]], [[2, 4]], [[0, 3], [2, 0]], [[1, 0], [0, 1]]):
                mart = (2, swaps)
                told, turn = silent(mart, purses), round_of(mart)
                check_stair(self, told, 2)
                for weights in itertools.product(range(-1, turn + 1), repeat=2):
                    quiet = all(weight_of(row, weights) % turn == 0 for row in swaps + purses)
                    self.assertEqual(made_of(told, weights), quiet, (swaps, purses, weights))

    def check(self, mart, purses):
        """The rows are silent, and as many as the document tells; what they hush is the stock."""
        k, swaps = mart
        told, turn = silent(mart, purses), round_of(mart)
        check_stair(self, told, k)
        self.assertEqual(len(told), k)
        self.assertTrue(all(weight_of(row, weights) % turn == 0 for row in swaps + purses for weights in told))
        # A stair of k rungs and the stair of what it hushes have leads that, all multiplied, are the round k times.
        self.assertEqual(leads_of(told) * leads_of(stair(swaps + purses, k)), turn ** k)
        self.assertEqual(hushed(mart, told), stock(mart, purses))
        return told

    def test_by_chance(self):
        chance = random.Random(174)
        for k, swaps in ending(chance):
            mart = (k, swaps)
            for many in (0, 1, 3):
                self.check(mart, some_rows(chance, many, k, range(-9, 10)))
            self.assertEqual(self.check(mart, swaps), silent(mart, []))
            turn = round_of(mart)
            whole = [[turn * number for number in token] for token in singles(k)]
            self.assertEqual(self.check(mart, singles(k)), whole)
            self.assertEqual(beside(whole, silent(mart, []), k), many_worths(mart))

    def test_of_great_numbers(self):
        chance = random.Random(175)
        for k, swaps in great_ending(chance):
            mart = (k, swaps)
            self.check(mart, [])
            self.check(mart, great_rows(chance, 1, k))
            self.check(mart, [[2 * number for number in row] for row in great_rows(chance, 16, k)])
            turn = round_of(mart)
            whole = [[turn * number for number in token] for token in singles(k)]
            self.assertEqual(beside(whole, silent(mart, []), k), many_worths(mart))

    def test_of_two_stocks(self):
        chance = random.Random(176)
        for k, swaps in ending(chance):
            mart = (k, swaps)
            one, other = some_rows(chance, 2, k), some_rows(chance, 1, k, range(-9, 10))
            both = met(silent(mart, one), silent(mart, other), k)
            self.assertEqual(silent(mart, one + other), both)
            common = met(stock(mart, one), stock(mart, other), k)
            self.assertEqual(silent(mart, common), joined(silent(mart, one), silent(mart, other), k))

    def test_the_lists_are_own(self):
        chance = random.Random(177)
        for k, swaps in ending(chance):
            check_own(self, silent, (k, swaps), some_rows(chance, 2, k))
            check_own(self, silent, (k, swaps), [])
        row = [2, 1]
        check_own(self, silent, (2, [row, row, [0, 3]]), [row, row])


class TestHushed(unittest.TestCase):

    def test_told_stairs(self):
        for k, swaps, dials, told in [
                (0, [], [], []), (0, [], [[], []], []), (1, [[6]], [], [[1]]), (1, [[6]], [[1]], [[6]]),
                (1, [[6]], [[3]], [[2]]), (1, [[6]], [[4]], [[3]]), (1, [[6]], [[0]], [[1]]), (1, [[6]], [[6]], [[1]]),
                (1, [[6]], [[5], [3]], [[6]]), (1, [[1]], [[7]], [[1]]), (2, [[2, 0], [0, 2]], [], [[1, 0], [0, 1]]),
                (2, [[2, 0], [0, 2]], [[1, 1]], [[1, 1], [0, 2]]), (2, [[2, 0], [0, 3]], [[3, 2]], [[2, 0], [0, 3]]),
                # No dials of the mart: by the round, 6, they are asked for all the same.
                (2, [[2, 0], [0, 3]], [[1, 0]], [[6, 0], [0, 1]]), (2, [[2, 0], [0, 3]], [[1, 1]], [[1, 5], [0, 6]])]:
            with self.subTest(k=k, swaps=swaps, dials=dials):
                self.assertEqual(hushed((k, swaps), dials), told)

    def test_each_small_purse(self):
        for swaps in ([[2, 0], [0, 3]], [[2, 1], [0, 3]], [[4, 2], [0, 2]], [[1, 3], [0, 7]], [[1, 0], [0, 1]]):
            for dials in ([], [[1, 0]], [[1, 1]], [[2, 4]], [[0, 3], [2, 0]], [[-1, 7], [3, 5]], [[0, 0]]):
                mart = (2, swaps)
                told, turn = hushed(mart, dials), round_of(mart)
                check_stair(self, told, 2)
                for purse in itertools.product(range(-1, turn + 1), repeat=2):
                    quiet = all(weight_of(purse, weights) % turn == 0 for weights in dials)
                    self.assertEqual(made_of(told, purse), quiet, (swaps, dials, purse))

    def check(self, mart, dials):
        k, _ = mart
        told, turn = hushed(mart, dials), round_of(mart)
        check_stair(self, told, k)
        self.assertEqual(len(told), k)
        self.assertTrue(all(weight_of(row, weights) % turn == 0 for row in told for weights in dials))
        whole = [[turn * number for number in token] for token in singles(k)]
        self.assertEqual(leads_of(told) * leads_of(stair(dials + whole, k)), turn ** k)
        return told

    def test_by_chance(self):
        chance = random.Random(178)
        for k, swaps in ending(chance):
            for many in (0, 1, 2, 8):
                self.check((k, swaps), some_rows(chance, many, k, range(-20, 21)))
            self.assertEqual(self.check((k, swaps), []), singles(k))
            self.assertEqual(self.check((k, swaps), silent((k, swaps), [])), stair(swaps, k))

    def test_of_great_numbers(self):
        chance = random.Random(179)
        for k, swaps in great_ending(chance):
            self.check((k, swaps), great_rows(chance, 1, k))
            self.check((k, swaps), great_rows(chance, 16, k))

    def test_the_lists_are_own(self):
        chance = random.Random(180)
        for k, swaps in ending(chance):
            check_own(self, hushed, (k, swaps), some_rows(chance, 2, k))
            check_own(self, hushed, (k, swaps), [])
        row = [2, 1]
        check_own(self, hushed, (2, [row, row, [0, 3]]), [row, row])


class TestEndless(unittest.TestCase):

    def test_of_marts_that_do_not_end(self):
        chance = random.Random(181)
        for k, swaps in endless(chance):
            for rows in ([], [[0] * k], [[1] * k], singles(k)):
                for function in (silent, hushed):
                    with self.assertRaises(Endless) as caught:
                        function((k, swaps), rows)
                    self.assertIs(type(caught.exception), Endless)


class TestNoFit(unittest.TestCase):

    def goods(self, k):
        """Swaps of which nothing ends, and of which all does."""
        return [], [[0] * k], [[2 * number for number in token] for token in singles(k)]

    def test_a_swap(self):
        for k in range(9):
            for bad in bad_lists(k):
                for good in self.goods(k):
                    with self.subTest(k=k, lengths=[len(row) for row in bad]):
                        for swaps in (good + bad, bad + good):
                            check_refused(self, round_of, (k, swaps))
                            for rows in ([], singles(k)):
                                check_refused(self, silent, (k, swaps), rows)
                                check_refused(self, hushed, (k, swaps), rows)

    def test_a_purse_or_a_row_of_dials(self):
        for k in range(9):
            for bad in bad_lists(k):
                for good in self.goods(k):
                    check_refused(self, silent, (k, good), bad)
                    check_refused(self, hushed, (k, good), bad)

    def test_two_whose_lengths_make_up_for_one_another(self):
        for k in range(1, 9):
            for one, other in ((k - 1, k + 1), (k + 1, k - 1)):
                for good in self.goods(k):
                    for function in (silent, hushed):
                        check_refused(self, function, (k, good + [[1] * one]), [[1] * other])
                        check_refused(self, function, (k, good), [[1] * one, [1] * other])
                        check_refused(self, function, (k, good + [[1] * one, [1] * other]), [])


if __name__ == "__main__":
    unittest.main()
