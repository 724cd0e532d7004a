"""Marts that are alike: points 2, 3, 15 and 25."""

import itertools
import random
import unittest

from samples import (bad_lists, check_own, check_refused, great_purse, great_shapes, made_of, moved, product_of, shapes,
                     single, singles, sizes_by_minors, some_purse, some_rows, sum_of)
from swapmart.alike import alike
from swapmart.stairs import stair
from swapmart.wheels import wheels


def kinds_by_one_another(chance, k, rows):
    """Rows of which each kind is told by others: exchanged, turned, or one kind added to another."""
    told = [list(row) for row in rows]
    for _ in range(6 if k > 1 else 0):
        one, other = chance.sample(range(k), 2)
        often = chance.choice([-2, -1, 0, 1, 3])
        for row in told:
            row[one], row[other] = row[other], -row[one] + often * row[other]
    return told


def swaps_by_one_another(chance, k, swaps):
    """Swaps of which the same purses are made: in another order, turned, added to one another, one more."""
    told = [list(swap) for swap in swaps] + [sum_of(some_purse(chance, len(swaps)), swaps, k)]
    for _ in range(6 if len(told) > 1 else 0):
        one, other = chance.sample(range(len(told)), 2)
        told[one] = [-mine + 2 * more for mine, more in zip(told[one], told[other])]
    chance.shuffle(told)
    return told


def with_a_kind(chance, k, swaps):
    """A mart of a kind more, a token of which is exchanged for a purse of the others."""
    return k + 1, [swap + [0] for swap in swaps] + [some_purse(chance, k) + [1]]


class TestAlike(unittest.TestCase):

    def check_tariff(self, mart, other_mart, tariff):
        """A tariff that is let by, by sums and the stair."""
        k, swaps = mart
        l, other_swaps = other_mart
        self.assertEqual((type(tariff), len(tariff)), (list, k))
        self.assertTrue(all(type(purse) is list and len(purse) == l for purse in tariff))
        rungs = stair(other_swaps, l)
        self.assertTrue(all(made_of(rungs, sum_of(swap, tariff, l)) for swap in swaps))

    def check_return(self, mart, l, there, back):
        """Each single token that is sent there and back is of one worth with itself."""
        k, swaps = mart
        rungs = stair(swaps, k)
        for token, given in zip(singles(k), there):
            come = sum_of(given, back, k)
            self.assertTrue(made_of(rungs, [mine - own for mine, own in zip(come, token)]))

    def check(self, mart, other_mart):
        told = alike(mart, other_mart)
        self.assertIs(type(told), tuple)
        sizes, other_sizes = wheels(mart)[0], wheels(other_mart)[0]
        if sizes == other_sizes:
            self.assertEqual((len(told), told[0]), (3, "alike"))
            there, back = told[1], told[2]
            self.check_tariff(mart, other_mart, there)
            self.check_tariff(other_mart, mart, back)
            self.check_return(mart, other_mart[0], there, back)
            self.check_return(other_mart, mart[0], back, there)
        else:
            pairs = itertools.zip_longest(sizes, other_sizes)
            first = next(at for at, (size, other_size) in enumerate(pairs) if size != other_size)
            self.assertEqual(told, ("unlike", first))
        return told

    def test_told_alike(self):
        for mart, other_mart in [((0, []), (0, [])), ((0, []), (0, [[], []])), ((0, []), (1, [[1]])),
                                 ((1, [[-1]]), (0, [])), ((0, []), (3, singles(3))), ((1, []), (1, [[0]])),
                                 ((1, []), (2, [[3, 1]])), ((2, [[2, 3]]), (1, [])), ((1, [[6]]), (2, [[2, 0], [0, 3]])),
                                 ((1, [[6]]), (1, [[-6], [12]])), ((2, [[2, 1], [0, 3]]), (1, [[6]])),
                                 ((2, [[2, 0], [0, 4]]), (2, [[4, 2], [0, 2]])), ((2, [[0, 2]]), (2, [[2, 2]])),
                                 ((2, [[4, 6]]), (2, [[2, 0]])), ((2, [[6, 0], [0, 10]]), (2, [[2, 0], [0, 30]])),
                                 ((3, [[2, 2, 2]]), (3, [[0, 2, 0]]))]:
            with self.subTest(mart=mart, other_mart=other_mart):
                self.assertEqual(self.check(mart, other_mart)[0], "alike")
                self.assertEqual(self.check(other_mart, mart)[0], "alike")
        self.assertEqual(alike((0, []), (0, [])), ("alike", [], []))

    def test_told_unlike(self):
        for mart, other_mart, at in [((0, []), (1, []), 0), ((1, []), (1, [[5]]), 0), ((1, [[5]]), (1, [[6]]), 0),
                                     ((1, []), (2, []), 1), ((1, [[1]]), (1, [[2]]), 0),
                                     ((2, [[2, 0], [0, 2]]), (1, [[4]]), 0), ((2, [[2, 0], [0, 2]]), (1, [[2]]), 1),
                                     ((2, [[2, 0], [0, 4]]), (2, [[2, 0], [0, 6]]), 1),
                                     ((2, [[2, 0], [0, 3]]), (2, [[2, 0], [0, 6]]), 0),
                                     ((2, [[2, 0]]), (2, [[2, 0], [0, 4]]), 1), ((2, [[2, 0]]), (2, []), 0),
                                     ((3, [[3, 0, 0], [0, 3, 0]]), (3, [[3, 0, 0], [0, 3, 0], [0, 0, 3]]), 2)]:
            with self.subTest(mart=mart, other_mart=other_mart):
                self.assertEqual(self.check(mart, other_mart), ("unlike", at))
                self.assertEqual(self.check(other_mart, mart), ("unlike", at))

    def test_of_all_small_marts(self):
        # The sizes are reckoned here from minors, apart from the program.
        rows = [[], [[2, 0]], [[2, 2]], [[0, 3]], [[4, 2]], [[2, 0], [0, 2]], [[1, 1], [1, -1]], [[4, 0], [0, 4]],
                [[2, 0], [0, 8]], [[2, 2], [0, 8]], [[3, 1], [1, 3]], [[4, 4], [0, 4]], [[5, 0], [0, 1]], [[0, 0]],
                [[6, 0], [0, 4]], [[2, 0], [0, 12]], [[1, 0], [0, 24]]]
        for swaps, other_swaps in itertools.product(rows, repeat=2):
            told = self.check((2, swaps), (2, other_swaps))
            like = sizes_by_minors(swaps, 2) == sizes_by_minors(other_swaps, 2)
            self.assertEqual(told[0] == "alike", like)

    def test_marts_told_otherwise(self):
        chance = random.Random(151)
        for k, swaps in shapes(chance):
            mart = (k, swaps)
            for other_mart in ((k, kinds_by_one_another(chance, k, swaps)), (k, swaps_by_one_another(chance, k, swaps)),
                               with_a_kind(chance, k, swaps), (k, swaps), (k, stair(swaps, k)),
                               with_a_kind(chance, k, swaps_by_one_another(chance, k, swaps))):
                self.assertEqual(self.check(mart, other_mart)[0], "alike")
                self.assertEqual(self.check(other_mart, mart)[0], "alike")

    def test_one_mart_and_itself(self):
        chance = random.Random(152)
        for k, swaps in shapes(chance):
            mart = (k, swaps)
            told = alike(mart, mart)
            self.assertEqual(told[0], "alike")
            self.assertEqual(self.check(mart, (k, [list(swap) for swap in swaps])), told)
            check_own(self, alike, mart, mart)

    def test_by_chance(self):
        chance = random.Random(153)
        words = []
        for k, swaps in shapes(chance):
            for l in (0, 1, 3, 8):
                words.append(self.check((k, swaps), (l, some_rows(chance, l, l)))[0])
        self.assertEqual(set(words), {"alike", "unlike"})

    def test_purses_of_one_worth(self):
        chance = random.Random(154)
        for k, swaps in shapes(chance):
            other_swaps = kinds_by_one_another(chance, k, swaps)
            _, there, back = alike((k, swaps), (k, other_swaps))
            purse = some_purse(chance, k, range(-30, 31))
            other = moved(chance, purse, swaps)
            way = [mine - more for mine, more in zip(sum_of(purse, there, k), sum_of(other, there, k))]
            self.assertTrue(made_of(stair(other_swaps, k), way))
            come = sum_of(sum_of(purse, there, k), back, k)
            self.assertTrue(made_of(stair(swaps, k), [mine - own for mine, own in zip(come, purse)]))

    def test_of_great_numbers(self):
        chance = random.Random(155)
        for k, swaps in great_shapes(chance):
            mart = (k, swaps)
            self.assertEqual(self.check(mart, (k, kinds_by_one_another(chance, k, swaps)))[0], "alike")
            told = self.check(mart, (k, swaps_by_one_another(chance, k, swaps)))
            self.assertEqual(told[0], "alike")
            self.assertTrue(all(abs(number) < 10 ** 4000 for tariff in told[1:] for row in tariff for number in row))
            self.assertEqual(self.check(mart, (k, swaps + [great_purse(chance, k)]))[0],
                             "alike" if wheels(mart)[0] == [] else "unlike")

    def test_of_endless_marts(self):
        chance = random.Random(156)
        for k in range(1, 9):
            for many in range(k):
                swaps = some_rows(chance, many, k)
                self.assertEqual(self.check((k, swaps), (k, kinds_by_one_another(chance, k, swaps)))[0], "alike")
                self.assertEqual(self.check((k, swaps), with_a_kind(chance, k, swaps))[0], "alike")
                self.assertEqual(alike((k, swaps), (k + 1, [swap + [0] for swap in swaps]))[0], "unlike")
            self.assertEqual(alike((k, []), (k + 1, [])), ("unlike", k))
            self.assertEqual(self.check((k, []), (k, []))[0], "alike")
            self.assertEqual(alike((k, []), (k, [[2 * number for number in single(k, 0)]])), ("unlike", 0))

    def test_as_many_worths_do_not_make_it_alike(self):
        for orders, other_orders in (([4, 4], [2, 8]), ([2, 2, 2], [2, 4, 1]), ([9, 1], [3, 3])):
            k = len(orders)
            marts = [(k, [[size if at == kind else 0 for at in range(k)] for kind, size in enumerate(some)])
                     for some in (orders, other_orders)]
            self.assertEqual(product_of(orders), product_of(other_orders))
            self.assertEqual(self.check(*marts)[0], "unlike")

    def test_the_lists_are_own(self):
        chance = random.Random(157)
        for k, swaps in shapes(chance):
            check_own(self, alike, (k, swaps), (k, kinds_by_one_another(chance, k, swaps)))
            check_own(self, alike, (k, swaps), (2, [[2, 1], [0, 3]]))


class TestNoFit(unittest.TestCase):

    def test_a_swap_of_either_mart(self):
        for k in range(9):
            for bad in bad_lists(k):
                for swaps in ([], [[0] * k], [[2] * k], singles(k)):
                    with self.subTest(k=k, lengths=[len(row) for row in bad]):
                        check_refused(self, alike, (k, bad), (k, swaps))
                        check_refused(self, alike, (k, swaps), (k, bad))
                        check_refused(self, alike, (k, bad), (k, bad))
                        check_refused(self, alike, (k, swaps + bad), (1, [[5]]))
                        check_refused(self, alike, (1, [[5]]), (k, bad + swaps))

    def test_two_whose_lengths_make_up_for_one_another(self):
        for k in range(1, 9):
            for one, other in ((k - 1, k + 1), (k + 1, k - 1)):
                check_refused(self, alike, (k, [[1] * one]), (k, [[1] * other]))
                check_refused(self, alike, (k, [[1] * one, [1] * other]), (k, []))
                check_refused(self, alike, (k, []), (k, [[1] * one, [1] * other]))
            # The swaps of each would fit the other mart.
            check_refused(self, alike, (k, [[1] * (k + 1)]), (k + 1, [[1] * k]))


if __name__ == "__main__":
    unittest.main()
