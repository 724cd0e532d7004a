"""The stair of rows, told with counts: points 2, 3, 4, 9 and 11."""

import random
import unittest

from samples import (GREAT, bad_lists, check_own, check_refused, flat_rows, great_purse, great_rows, great_shapes,
                     left_of, shapes, some_purse, some_rows, stands, sum_of)
from swapmart.rungs import is_stair
from swapmart.stairs import stair, with_counts


class TestStair(unittest.TestCase):

    def check(self, rows, k):
        rungs = stair(rows, k)
        self.assertTrue(stands(rungs))
        self.assertIs(is_stair(rungs), True)
        self.assertTrue(all(type(rung) is list and len(rung) == k for rung in rungs))
        for row in rows:
            self.assertEqual(left_of(rungs, row), [0] * k)
        told = with_counts(rows, k)
        self.assertIs(type(told), tuple)
        self.assertEqual(len(told), 2)
        self.assertEqual(told[0], rungs)
        self.assertEqual(len(told[1]), len(rungs))
        for rung, counts in zip(rungs, told[1]):
            self.assertIs(type(counts), list)
            self.assertEqual(len(counts), len(rows))
            self.assertEqual(sum_of(counts, rows, k), rung)
        return rungs

    def test_told_stairs(self):
        for rows, rungs in [([[3]], [[3]]), ([[-3]], [[3]]), ([[4], [6]], [[2]]), ([[6], [10], [15]], [[1]]),
                            ([[2, 1], [0, 3]], [[2, 1], [0, 3]]), ([[0, 3], [2, 1]], [[2, 1], [0, 3]]),
                            ([[2, 4], [0, 3]], [[2, 1], [0, 3]]), ([[2, -1], [0, -3]], [[2, 2], [0, 3]]),
                            ([[1, 2], [3, 4]], [[1, 0], [0, 2]]), ([[-1, 5]], [[1, -5]]), ([[0, -2]], [[0, 2]]),
                            ([[2, 3], [4, 6]], [[2, 3]]), ([[1, 1, 1], [1, 1, 1]], [[1, 1, 1]]),
                            ([[2, 0, 5], [3, 0, -5]], [[1, 0, 15], [0, 0, 25]]),
                            ([[5, 2, 1], [0, 3, 1], [0, 0, 2]], [[5, 2, 1], [0, 3, 1], [0, 0, 2]])]:
            with self.subTest(rows=rows):
                self.assertEqual(self.check(rows, len(rows[0])), rungs)

    def test_of_no_rows_and_of_noughts(self):
        for k in range(9):
            self.assertEqual(self.check([], k), [])
            self.assertEqual(with_counts([], k), ([], []))
            for many in (1, 2, 16):
                self.assertEqual(self.check([[0] * k for _ in range(many)], k), [])
                self.assertEqual(with_counts([[0] * k for _ in range(many)], k), ([], []))

    def test_of_no_kinds(self):
        self.assertEqual(stair([[], [], []], 0), [])
        self.assertEqual(with_counts([[], []], 0), ([], []))

    def test_noughts_amid_rows(self):
        self.assertEqual(self.check([[0, 0], [2, 2], [0, 0], [0, 6], [0, 0]], 2), [[2, 2], [0, 6]])
        counts = with_counts([[0, 0], [2, 2], [0, 0], [0, 6], [0, 0]], 2)[1]
        self.assertEqual([(row[1], row[3]) for row in counts], [(1, 0), (0, 1)])

    def test_by_chance(self):
        chance = random.Random(11)
        for k, rows in shapes(chance):
            self.check(rows, k)
        for _ in range(300):
            k = chance.randrange(1, 5)
            self.check(some_rows(chance, chance.randrange(1, 7), k, range(-60, 61)), k)

    def test_of_great_numbers(self):
        chance = random.Random(12)
        for k, rows in great_shapes(chance):
            self.check(rows, k)

    def test_told_numbers_stay_below_four_thousand_figures(self):
        chance = random.Random(13)
        for k, rows in great_shapes(chance):
            rungs, counts = with_counts(rows, k)
            for line in rungs + counts:
                self.assertTrue(all(abs(number) < 10 ** 4000 for number in line))

    def test_one_stair_for_the_same_purses(self):
        chance = random.Random(14)
        for k, rows in list(shapes(chance)) + [(8, great_rows(chance, 8, 8)), (8, flat_rows(chance, 6, 8, 3))]:
            rungs = stair(rows, k)
            mingled = list(rows)
            chance.shuffle(mingled)
            self.assertEqual(self.check(mingled, k), rungs)
            self.assertEqual(self.check(rows[::-1], k), rungs)
            self.assertEqual(stair([[-number for number in row] for row in rows], k), rungs)
            if rows:
                self.assertEqual(self.check(rows + [rows[0]], k), rungs)
                self.assertEqual(self.check([rows[-1]] + rows, k), rungs)
            sums = [sum_of(some_purse(chance, len(rows)), rows, k) for _ in range(2)]
            self.assertEqual(self.check(rows + sums, k), rungs)
            self.assertEqual(self.check(sums + rows, k), rungs)
            self.assertEqual(stair(rungs, k), rungs)
            self.assertEqual(stair(rungs[::-1], k), rungs)

    def test_other_purses_make_another_stair(self):
        self.assertNotEqual(stair([[2, 0], [0, 2]], 2), stair([[2, 0], [0, 4]], 2))
        self.assertNotEqual(stair([[2, 0], [0, 2]], 2), stair([[2, 0], [1, 2]], 2))
        chance = random.Random(15)
        for k, rows in shapes(chance):
            rungs = stair(rows, k)
            purse = some_purse(chance, k)
            if any(left_of(rungs, purse)):
                self.assertNotEqual(self.check(rows + [purse], k), rungs)

    def test_counts_of_a_stair_are_its_own_rows(self):
        chance = random.Random(16)
        for k, rows in shapes(chance):
            rungs = stair(rows, k)
            own = [[1 if at == row else 0 for at in range(len(rungs))] for row in range(len(rungs))]
            self.assertEqual(with_counts(rungs, k), (rungs, own))

    def test_what_was_told_is_handed_in_again(self):
        chance = random.Random(17)
        rows = great_rows(chance, 8, 8)
        rungs, counts = with_counts(rows, 8)
        self.check(counts, 8)
        self.check(rungs + [[GREAT * number for number in rung] for rung in rungs], 8)
        self.assertEqual(self.check(rungs + [sum_of(great_purse(chance, 8), rungs, 8)], 8), rungs)
        self.check(with_counts(great_rows(chance, 16, 8), 8)[1], 16)
        many = [[one, other, 0] for one in range(12) for other in range(12)]
        self.assertEqual(self.check(many, 3), [[1, 0, 0], [0, 1, 0]])

    def test_the_lists_are_own(self):
        chance = random.Random(18)
        for k, rows in shapes(chance):
            check_own(self, stair, rows, k)
        for k, rows in shapes(chance):
            check_own(self, with_counts, rows, k)
        rungs = stair([[2, 1], [0, 3]], 2)
        check_own(self, stair, rungs, 2)
        row = [1, 2]
        told = stair([row, row], 2)
        told[0][0] = 50
        self.assertEqual(row, [1, 2])


class TestNoFit(unittest.TestCase):

    def test_rows_of_another_length(self):
        for k in range(9):
            for rows in bad_lists(k):
                with self.subTest(k=k, lengths=[len(row) for row in rows]):
                    check_refused(self, stair, rows, k)
                    check_refused(self, with_counts, rows, k)

    def test_rows_alike_but_not_of_k_numbers(self):
        check_refused(self, stair, [[1, 2], [3, 4]], 3)
        check_refused(self, stair, [[1, 2], [3, 4]], 1)
        check_refused(self, with_counts, [[1, 2], [3, 4]], 4)
        check_refused(self, with_counts, [[0, 0]], 0)
        self.assertEqual(stair([[1, 2], [3, 4]], 2), [[1, 0], [0, 2]])


if __name__ == "__main__":
    unittest.main()
