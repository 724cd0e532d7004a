"""What a tariff loses and what it comes to: points 2, 3, 15 and 24."""

import itertools
import random
import unittest

from samples import (GREAT, bad_lists, check_own, check_refused, check_stair, great_purse, great_rows, great_shapes,
                     leads_of, let_by, made_of, shapes, single, singles, some_purse, some_rows, sum_of)
from swapmart.errors import NoTariff
from swapmart.losses import come_to, lost
from swapmart.meets import beside
from swapmart.stairs import stair
from swapmart.stocks import stock


def kept_apart(chance, k, l, numbers):
    """A tariff between marts, let by, that doesn't lose all: swaps are made of what is sent to nothing."""
    tariff, other_swaps = some_rows(chance, k, l, numbers), some_rows(chance, 3, l, numbers)
    gone = lost((k, []), (l, other_swaps), tariff)
    swaps = [sum_of(some_purse(chance, len(gone)), gone, k) for _ in range(3)]
    return (k, swaps), (l, other_swaps), tariff


class TestLost(unittest.TestCase):

    def test_told_stairs(self):
        for mart, other_mart, tariff, told in [
                ((0, []), (0, []), [], []), ((0, []), (1, [[3]]), [], []), ((1, []), (1, []), [[1]], []),
                ((1, []), (1, []), [[0]], [[1]]), ((1, []), (1, [[6]]), [[4]], [[3]]), ((1, [[6]]), (1, [[6]]), [[4]], [[3]]),
                ((2, []), (0, []), [[], []], [[1, 0], [0, 1]]), ((2, []), (1, []), [[2], [3]], [[3, -2]]),
                ((2, []), (1, [[5]]), [[2], [3]], [[1, 1], [0, 5]]), ((2, [[1, 1]]), (1, [[5]]), [[2], [3]], [[1, 1], [0, 5]]),
                ((2, []), (2, []), [[1, 2], [2, 4]], [[2, -1]]), ((1, [[4]]), (2, [[2, 0], [0, 2]]), [[1, 0]], [[2]]),
                ((2, []), (2, [[0, 1]]), [[3, 5], [3, 7]], [[1, -1]])]:
            with self.subTest(mart=mart, other_mart=other_mart, tariff=tariff):
                self.assertEqual(lost(mart, other_mart, tariff), told)

    def test_each_small_purse(self):
        for given in itertools.product(((1, 0), (0, 1), (2, 1), (3, 3), (0, 0), (-2, 4)), repeat=2):
            for other_swaps in ([], [[2, 0]], [[0, 3]], [[2, 1], [0, 3]], [[4, 0], [0, 6]], [[1, 1]], [[3, -3], [2, 2]]):
                tariff = [list(purse) for purse in given]
                told = lost((2, []), (2, other_swaps), tariff)
                check_stair(self, told, 2)
                rungs = stair(other_swaps, 2)
                for purse in itertools.product(range(7), range(-7, 8)):
                    gone = made_of(rungs, sum_of(purse, tariff, 2))
                    self.assertEqual(made_of(told, purse), gone, (tariff, other_swaps, purse))

    def check(self, mart, other_mart, tariff):
        """Each row is sent to nothing, and no other purse is: as many are left as the tariff comes to."""
        k, swaps = mart
        l, other_swaps = other_mart
        told, come = lost(mart, other_mart, tariff), come_to(mart, other_mart, tariff)
        check_stair(self, told, k)
        rungs = stair(other_swaps, l)
        self.assertTrue(all(made_of(rungs, sum_of(row, tariff, l)) for row in told))
        self.assertTrue(all(made_of(told, swap) for swap in swaps))
        self.assertEqual(come, stock(other_mart, tariff))
        self.assertEqual(come, stair(tariff + other_swaps, l))
        # As many rungs and leads: what is lost is left out nowhere.
        self.assertEqual(k - len(told), len(come) - len(rungs))
        many = beside(told, singles(k), k)
        self.assertEqual(many, beside(rungs, come, l))
        self.assertEqual(many, leads_of(told) if len(told) == k else 0)
        return told

    def test_by_chance(self):
        chance = random.Random(141)
        for k in range(9):
            for l in (0, 1, 2, 4, 8):
                for _ in range(3):
                    mart, other_mart, tariff = let_by(chance, k, l, range(-4, 5))
                    told = self.check(mart, other_mart, tariff)
                    self.check(*kept_apart(chance, k, l, range(-4, 5)))
                    for _ in range(4):
                        purse = some_purse(chance, k)
                        gone = made_of(stair(other_mart[1], l), sum_of(purse, tariff, l))
                        self.assertEqual(made_of(told, purse), gone)
                    self.assertEqual(told, lost((k, []), other_mart, tariff))

    def test_where_it_ends_nowhere(self):
        chance = random.Random(142)
        for k, l in itertools.product(range(1, 9), repeat=2):
            tariff = some_rows(chance, k, l, range(-3, 4))
            told = self.check((k, []), (l, []), tariff)
            # Each purse of which some number is sent to nothing is lost here, as there are no swaps.
            for row in told:
                self.assertFalse(any(sum_of(row, tariff, l)))

    def test_of_great_numbers(self):
        chance = random.Random(143)
        for k, other_swaps in great_shapes(chance):
            tariff = great_rows(chance, 3, k)
            told = self.check((3, []), (k, other_swaps), tariff)
            self.check((3, told), (k, other_swaps), tariff)
            self.check((3, [[GREAT * number for number in row] for row in told]), (k, other_swaps), tariff)
        self.check((8, []), (8, great_rows(chance, 16, 8)), great_rows(chance, 8, 8))
        self.check((8, []), (3, great_rows(chance, 3, 3)), great_rows(chance, 8, 3))
        self.assertEqual(lost((1, [[GREAT * 6]]), (1, [[GREAT * 3]]), [[2]]), [[GREAT * 3]])

    def test_of_a_mart_to_itself(self):
        chance = random.Random(144)
        for k, swaps in shapes(chance):
            self.assertEqual(lost((k, swaps), (k, swaps), singles(k)), stair(swaps, k))
            self.assertEqual(lost((k, swaps), (k, swaps), [[0] * k for _ in range(k)]), singles(k))
            self.assertEqual(come_to((k, swaps), (k, swaps), singles(k)), singles(k))
            self.assertEqual(come_to((k, swaps), (k, swaps), [[0] * k for _ in range(k)]), stair(swaps, k))

    def test_the_lists_are_own(self):
        chance = random.Random(145)
        for k in range(9):
            for l in (0, 2, 5):
                check_own(self, lost, *let_by(chance, k, l, range(-4, 5)))
                check_own(self, come_to, *let_by(chance, k, l, range(-4, 5)))
                check_own(self, lost, *kept_apart(chance, k, l, range(-4, 5)))
        for swaps in ([], [[2, 1], [0, 3]]):
            check_own(self, lost, (2, swaps), (2, swaps), [[1, 0], [0, 1]])
            check_own(self, come_to, (2, swaps), (2, swaps), [[1, 0], [0, 1]])


class TestComeTo(unittest.TestCase):

    def test_told_stairs(self):
        for mart, other_mart, tariff, told in [
                ((0, []), (0, []), [], []), ((0, []), (1, [[3]]), [], [[3]]), ((1, []), (1, [[6]]), [[4]], [[2]]),
                ((1, [[3]]), (1, [[6]]), [[4]], [[2]]), ((2, []), (0, []), [[], []], []), ((1, []), (1, []), [[0]], []),
                ((2, []), (2, [[0, 1]]), [[3, 5], [3, 7]], [[3, 0], [0, 1]])]:
            with self.subTest(mart=mart, other_mart=other_mart, tariff=tariff):
                self.assertEqual(come_to(mart, other_mart, tariff), told)

    def test_of_great_numbers(self):
        chance = random.Random(146)
        for k, other_swaps in great_shapes(chance):
            given = sum_of(great_purse(chance, len(other_swaps)), other_swaps, k)
            self.assertEqual(come_to((1, [[1]]), (k, other_swaps), [given]), stair(other_swaps, k))


class TestNoTariff(unittest.TestCase):

    def check(self, mart, other_mart, tariff):
        for function in (lost, come_to):
            with self.assertRaises(NoTariff) as caught:
                function(mart, other_mart, tariff)
            self.assertIs(type(caught.exception), NoTariff)

    def test_told(self):
        for mart, other_mart, tariff in [((1, [[2]]), (1, [[4]]), [[1]]), ((1, [[1]]), (1, []), [[1]]),
                                         ((2, [[1, 0], [0, 1]]), (1, [[3]]), [[3], [1]]),
                                         ((1, [[0], [6], [3]]), (1, [[6]]), [[1]]),
                                         ((1, [[GREAT]]), (1, [[2 * GREAT]]), [[3]])]:
            self.check(mart, other_mart, tariff)

    def test_by_chance(self):
        chance = random.Random(147)
        refused = 0
        for k in range(1, 9):
            for l in range(1, 9):
                swaps, other_swaps, tariff = some_rows(chance, 3, k), some_rows(chance, 2, l), some_rows(chance, k, l)
                rungs = stair(other_swaps, l)
                if not all(made_of(rungs, sum_of(swap, tariff, l)) for swap in swaps):
                    refused += 1
                    self.check((k, swaps), (l, other_swaps), tariff)
        self.assertGreater(refused, 30)


class TestNoFit(unittest.TestCase):

    def check(self, mart, other_mart, tariff):
        check_refused(self, lost, mart, other_mart, tariff)
        check_refused(self, come_to, mart, other_mart, tariff)

    def test_a_swap_of_either_mart(self):
        for k in range(9):
            for bad in bad_lists(k):
                for swaps in ([], [[0] * k], singles(k)):
                    with self.subTest(k=k, lengths=[len(row) for row in bad]):
                        self.check((k, bad), (k, swaps), singles(k))
                        self.check((k, swaps), (k, bad), singles(k))
                        self.check((k, bad), (2, [[1, 1]]), [[1, 2]] * k)
                        self.check((2, [[1, 1]]), (k, bad), [[1] * k] * 2)

    def test_a_purse_of_the_tariff(self):
        for l in range(9):
            for bad in bad_lists(l):
                for k in {len(bad), l}:
                    self.check((k, []), (l, []), bad)
                    self.check((k, [[1] * k]), (l, singles(l)), bad)

    def test_a_purse_more_or_fewer(self):
        for k in range(9):
            for many in {0, k - 1, k + 1, 2 * k, 16} - {k, -1}:
                for swaps in ([], [[0] * k], [[1] * k]):
                    self.check((k, swaps), (3, singles(3)), [[1] * 3 for _ in range(many)])
                    self.check((k, swaps), (0, []), [[] for _ in range(many)])
                self.check((k, [[1] * many]), (2, []), [[1, 1] for _ in range(many)])

    def test_two_whose_lengths_make_up_for_one_another(self):
        for k in range(1, 9):
            for one, other in ((k - 1, k + 1), (k + 1, k - 1)):
                self.check((k, [[1] * one, [1] * other]), (k, []), singles(k))
                self.check((k, [[1] * one]), (k, [[1] * other]), singles(k))
                self.check((k, []), (k, [[1] * one]), singles(k)[1:] + [[1] * other])

    def test_ahead_of_no_tariff(self):
        # Each of these would fail by its first swap.
        self.check((1, [[1], [1, 1]]), (1, []), [[1]])
        self.check((1, [[1]]), (1, [[2], []]), [[1]])
        self.check((2, [[1, 0]]), (1, []), [[1], [1, 1]])
        self.check((2, [[1, 0]]), (1, []), [[1]])
        self.check((2, [[1, 0]]), (1, []), [[1], [1], [1]])
        for k in range(1, 9):
            self.check((k, [single(k, 0), [1] * (k + 1)]), (k, []), singles(k))


if __name__ == "__main__":
    unittest.main()
