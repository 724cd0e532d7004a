"""Papers on two purses: points 2, 3, 4, 5, 12 and 15."""

import random
import unittest

from samples import (GREAT, bad_lists, check_own, check_refused, divides, great_purse, great_shapes, left_of, misfits,
                     shapes, some_purse, sum_of, weight_of)
from swapmart.papers import holds, same
from swapmart.stairs import stair


class TestSame(unittest.TestCase):

    def check(self, mart, one, other):
        """The paper, by sums; and which one of the two there is, by the stair."""
        k, swaps = mart
        paper = same(mart, one, other)
        self.assertIs(type(paper), tuple)
        way = [more - mine for mine, more in zip(one, other)]
        if any(left_of(stair(swaps, k), way)):
            self.assertEqual(len(paper), 3)
            word, weights, modulus = paper
            self.assertEqual((word, type(weights), len(weights)), ("apart", list, k))
            self.assertTrue(all(divides(modulus, weight_of(swap, weights)) for swap in swaps))
            self.assertFalse(divides(modulus, weight_of(way, weights)))
        else:
            self.assertEqual(len(paper), 2)
            word, counts = paper
            self.assertEqual((word, type(counts)), ("same", list))
            self.assertEqual(sum_of(counts, swaps, k), way)
        self.assertIs(holds(mart, one, other, paper), True)
        return paper

    def test_of_the_same_purse(self):
        for k in range(9):
            self.assertEqual(self.check((k, []), [7] * k, [7] * k), ("same", []))
            self.check((k, [[3] * k, [0] * k]), [7] * k, [7] * k)

    def test_one_to_the_other_not_back(self):
        self.assertEqual(same((2, [[-2, 3]]), [5, 1], [3, 4]), ("same", [1]))
        self.assertEqual(same((2, [[-2, 3]]), [3, 4], [5, 1]), ("same", [-1]))
        self.assertEqual(same((2, [[-2, 3]]), [0, 0], [-200, 300]), ("same", [100]))
        self.assertEqual(same((2, [[1, 0], [0, 1]]), [1, 2], [5, -5]), ("same", [4, -7]))

    def test_of_other_worths(self):
        for mart, one, other in [((1, []), [1], [2]), ((1, [[0]]), [0], [5]), ((1, [[4]]), [0], [6]),
                                 ((2, [[2, -1]]), [0, 0], [1, 0]), ((2, [[2, -1]]), [0, 0], [0, 3]),
                                 ((2, [[2, 1], [0, 3]]), [0, 0], [0, 2]), ((2, [[2, 1], [0, 3]]), [1, 1], [0, 0]),
                                 ((3, [[1, 1, 0], [0, 2, 0]]), [0, 0, 0], [2, 1, 0]),
                                 ((3, [[0, 2, 5]]), [0, 0, 0], [0, 0, 1]), ((3, [[0, 2, 5]]), [0, 0, 0], [-1, 0, 0]),
                                 ((3, [[0, 2, 5]]), [0, 0, 0], [0, 2, 6]), ((3, [[0, 2, 5]]), [0, 0, 0], [0, 1, 5])]:
            with self.subTest(mart=mart, one=one, other=other):
                self.assertEqual(self.check(mart, one, other)[0], "apart")
                self.assertEqual(self.check(mart, other, one)[0], "apart")

    def test_a_modulus_of_nought_where_no_other_parts(self):
        # Each multiple of the way stays apart, so a modulus from 2 on would divide one of them at least.
        for many in (1, 2, 12, 2 ** 40):
            paper = self.check((1, []), [0], [many])
            self.assertEqual(paper[0], "apart")
        self.assertEqual(self.check((2, [[1, -1]]), [0, 0], [10 ** 40, 0])[0], "apart")

    def test_by_chance(self):
        chance = random.Random(21)
        for k, swaps in shapes(chance):
            for _ in range(6):
                one = some_purse(chance, k, range(-30, 31))
                way = sum_of(some_purse(chance, len(swaps)), swaps, k)
                other = [mine + more for mine, more in zip(one, way)]
                self.assertEqual(self.check((k, swaps), one, other)[0], "same")
                self.check((k, swaps), one, some_purse(chance, k, range(-30, 31)))
                if k:
                    other[chance.randrange(k)] += chance.choice([-2, -1, 1, 2, 3])
                    self.check((k, swaps), one, other)

    def test_of_great_numbers(self):
        chance = random.Random(22)
        for k, swaps in great_shapes(chance):
            mart = (k, swaps)
            one = great_purse(chance, k)
            way = sum_of(great_purse(chance, len(swaps)), swaps, k)
            other = [mine + more for mine, more in zip(one, way)]
            self.assertEqual(self.check(mart, one, other)[0], "same")
            for _ in range(3):
                other[chance.randrange(k)] += chance.randrange(1, 9)
                self.check(mart, one, other)
            paper = self.check(mart, one, great_purse(chance, k))
            self.assertTrue(all(abs(number) < 10 ** 4000 for number in paper[1]))

    def test_what_was_told_is_handed_in_again(self):
        chance = random.Random(23)
        for k, swaps in great_shapes(chance):
            rungs = stair(swaps, k)
            for rung in rungs[:3]:
                self.assertEqual(self.check((k, swaps), [0] * k, rung)[0], "same")
                self.assertEqual(self.check((k, rungs), rung, [GREAT * number for number in rung])[0], "same")
            for swap in swaps[:2]:
                self.assertEqual(self.check((k, rungs), swap, [0] * k)[0], "same")

    def test_the_lists_are_own(self):
        chance = random.Random(24)
        for k, swaps in shapes(chance):
            one, counts = some_purse(chance, k), some_purse(chance, len(swaps))
            other = [mine + more for mine, more in zip(one, sum_of(counts, swaps, k))]
            check_own(self, same, (k, swaps), one, other)
        for k, swaps in shapes(chance):
            check_own(self, same, (k, swaps), some_purse(chance, k), some_purse(chance, k))


class TestHolds(unittest.TestCase):

    MART = (2, [[2, 1], [0, 3]])

    def check(self, one, other, paper, may):
        with self.subTest(one=one, other=other, paper=paper):
            self.assertIs(check_own(self, holds, self.MART, one, other, paper), may)

    def test_counts(self):
        for counts, may in [([1, 2], True), ([2, 1], False), ([-1, -2], False), ([0, 0], False), ([1, 3], False)]:
            self.check([5, 5], [7, 12], ("same", counts), may)
        self.check([7, 12], [5, 5], ("same", [-1, -2]), True)
        self.check([7, 12], [5, 5], ("same", [1, 2]), False)
        self.check([4, 4], [4, 4], ("same", [0, 0]), True)
        self.check([4, 4], [5, 4], ("same", [0, 0]), False)

    def test_counts_too_many_or_too_few(self):
        for counts in [[], [1], [1, 2, 0], [1, 2, 3], [1, 2] + [0] * 14]:
            self.check([5, 5], [7, 12], ("same", counts), False)
        for counts in [[], [0], [0, 0, 0]]:
            self.check([5, 5], [5, 5], ("same", counts), False)
        self.check([0, 0], [2, 1], ("same", [1]), False)

    def test_weights(self):
        # By the first weights the swaps weigh 6 and 6, by -1 and 2 they weigh 0 and 6.
        for weights, modulus, way, may in [
                ([2, 2], 6, [1, 0], True), ([2, 2], 6, [3, 0], False), ([2, 2], 6, [1, 2], False),
                ([2, 2], 3, [1, 0], True), ([2, 2], 2, [1, 0], False), ([2, 2], 4, [1, 0], False),
                ([2, 2], 12, [1, 0], False), ([2, 2], 0, [1, 0], False), ([-1, 2], 6, [1, 0], True),
                ([-1, 2], 6, [0, 3], False), ([-1, 2], 3, [0, 1], True), ([-1, 2], 3, [2, 1], False),
                ([0, 0], 0, [1, 0], False), ([0, 0], 5, [1, 0], False), ([5, 2], 6, [1, 0], True)]:
            self.check([3, 4], [3 + way[0], 4 + way[1]], ("apart", weights, modulus), may)
            self.check([3, 4], [3 - way[0], 4 - way[1]], ("apart", weights, modulus), may)

    def test_each_swap_is_weighed(self):
        for swaps, may in [([[2, 1]], True), ([[2, 1], [1, 0]], False), ([[1, 0], [2, 1]], False),
                           ([[2, 1], [4, 2], [0, 1]], False), ([[0, 0], [2, 1], [-2, -1]], True), ([], True)]:
            self.assertIs(holds((2, swaps), [0, 0], [0, 1], ("apart", [-1, 2], 0)), may)
            self.assertIs(holds((2, swaps), [0, 0], [0, 2], ("apart", [-1, 2], 3)), may)

    def test_a_modulus_of_nought(self):
        mart = (2, [[2, -1], [-4, 2]])
        for weights, other, may in [([1, 2], [1, 0], True), ([1, 2], [2, -1], False), ([1, 2], [0, 0], False),
                                    ([1, 1], [1, 0], False), ([-3, -6], [0, 1], True), ([0, 0], [0, 1], False)]:
            self.assertIs(holds(mart, [0, 0], other, ("apart", weights, 0)), may)
        self.assertIs(holds((1, []), [0], [GREAT], ("apart", [1], 0)), True)

    def test_a_modulus_that_is_none(self):
        for modulus in [1, -1, -2, -3, -6, -GREAT]:
            self.check([0, 0], [1, 0], ("apart", [2, 2], modulus), False)
            self.check([0, 0], [0, 1], ("apart", [-1, 2], modulus), False)
            self.check([0, 0], [0, 0], ("apart", [0, 0], modulus), False)
            self.assertIs(holds((1, []), [0], [1], ("apart", [1], modulus)), False)

    def test_weights_too_many_or_too_few(self):
        for weights in [[], [2], [2, 2, 2], [2, 2, 0], [2, 2] + [0] * 14]:
            for modulus in (0, 1, 3, 6):
                self.check([0, 0], [1, 0], ("apart", weights, modulus), False)
        self.assertIs(holds((2, []), [0, 0], [1, 0], ("apart", [1], 0)), False)
        self.assertIs(holds((2, []), [0, 0], [1, 0], ("apart", [1, 0, 0], 2)), False)
        self.assertIs(holds((0, []), [], [], ("apart", [1], 2)), False)

    def test_of_no_kinds(self):
        self.assertIs(holds((0, []), [], [], ("same", [])), True)
        self.assertIs(holds((0, [[], []]), [], [], ("same", [5, -1])), True)
        self.assertIs(holds((0, [[], []]), [], [], ("same", [5])), False)
        self.assertIs(holds((0, []), [], [], ("apart", [], 0)), False)
        self.assertIs(holds((0, []), [], [], ("apart", [], 2)), False)

    def test_never_both(self):
        chance = random.Random(25)
        for k, swaps in shapes(chance):
            one, other = some_purse(chance, k), some_purse(chance, k)
            made = [mine + more for mine, more in zip(one, sum_of([1] * len(swaps), swaps, k))]
            paper = same((k, swaps), one, other)
            self.assertIs(holds((k, swaps), one, made, ("same", [1] * len(swaps))), True)
            if paper[0] == "apart":
                self.assertIs(holds((k, swaps), one, made, paper), False)

    def test_of_great_numbers(self):
        chance = random.Random(26)
        for k, swaps in great_shapes(chance):
            one, counts = great_purse(chance, k), great_purse(chance, len(swaps))
            other = [mine + more for mine, more in zip(one, sum_of(counts, swaps, k))]
            self.assertIs(holds((k, swaps), one, other, ("same", counts)), True)
            other[0] += 1
            self.assertIs(holds((k, swaps), one, other, ("same", counts)), False)


class TestNoFit(unittest.TestCase):

    def check(self, mart, one, other):
        k, swaps = mart
        check_refused(self, same, mart, one, other)
        papers = [("same", [1] * len(swaps)), ("same", [0] * len(swaps)), ("same", []), ("same", [1] * 16),
                  ("apart", [1] * k, 0), ("apart", [1] * k, 2), ("apart", [1] * len(one), 1),
                  ("apart", [1] * (k + 1), 2), ("apart", [], -5)]
        for paper in papers:
            check_refused(self, holds, mart, one, other, paper)

    def test_a_swap_of_another_length(self):
        for k in range(9):
            for swaps in bad_lists(k):
                with self.subTest(k=k, lengths=[len(swap) for swap in swaps]):
                    self.check((k, swaps), [1] * k, [2] * k)

    def test_a_purse_of_another_length(self):
        for k in range(9):
            for swaps in ([], [[1] * k], [[0] * k, [2] * k]):
                for bad in misfits(k):
                    with self.subTest(k=k, length=len(bad)):
                        self.check((k, swaps), bad, [0] * k)
                        self.check((k, swaps), [0] * k, bad)
                        self.check((k, swaps), bad, list(bad))
                if k:
                    self.check((k, swaps), [0] * (k - 1), [0] * (k + 1))
                    self.check((k, swaps), [0] * (k + 1), [0] * (k - 1))


if __name__ == "__main__":
    unittest.main()
