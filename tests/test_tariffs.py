"""Tariffs from mart to mart: points 2, 3, 15, 22 and 23."""

import random
import unittest

from samples import (GREAT, bad_lists, check_dial, check_own, check_refused, great_purse, great_rows, great_shapes,
                     let_by, made_of, misfits, shapes, single, singles, some_purse, some_rows, sum_of)
from swapmart.stairs import stair
from swapmart.tariffs import behind, goes, sent


class TestSent(unittest.TestCase):

    def test_told_purses(self):
        for tariff, purse, l, told in [([], [], 0, []), ([], [], 3, [0, 0, 0]), ([[], []], [4, 5], 0, []),
                                       ([[1, 2]], [3], 2, [3, 6]), ([[1, 2], [0, -5]], [3, 2], 2, [3, -4]),
                                       ([[1], [10], [100]], [2, -3, 4], 1, [372]), ([[7, 7]], [0], 2, [0, 0])]:
            with self.subTest(tariff=tariff, purse=purse):
                self.assertEqual(sent(tariff, purse, l), told)

    def test_it_is_mixed_by_the_purse(self):
        chance = random.Random(121)
        for k, tariff in shapes(chance):
            for _ in range(3):
                purse = some_purse(chance, len(tariff), range(-20, 21))
                self.assertEqual(sent(tariff, purse, k), sum_of(purse, tariff, k))
            for at, given in enumerate(tariff):
                self.assertEqual(sent(tariff, single(len(tariff), at), k), given)

    def test_of_great_numbers(self):
        chance = random.Random(122)
        for k, tariff in great_shapes(chance):
            purse = great_purse(chance, len(tariff))
            self.assertEqual(sent(tariff, purse, k), sum_of(purse, tariff, k))

    def test_the_lists_are_own(self):
        chance = random.Random(123)
        for k, tariff in shapes(chance):
            check_own(self, sent, tariff, some_purse(chance, len(tariff)), k)
        row = [1, 2]
        check_own(self, sent, [row, row], row, 2)


class TestGoes(unittest.TestCase):

    def check(self, mart, other_mart, tariff):
        """What is told, by sums; and which one of the two there is, by the stair."""
        k, swaps = mart
        l, other_swaps = other_mart
        told = goes(mart, other_mart, tariff)
        self.assertIs(type(told), tuple)
        ways = [sum_of(swap, tariff, l) for swap in swaps]
        rungs = stair(other_swaps, l)
        failing = [at for at, way in enumerate(ways) if not made_of(rungs, way)]
        if failing:
            self.assertEqual((len(told), told[0], told[1]), (4, "fails", failing[0]))
            self.assertEqual(len(told[2]), l)
            check_dial(self, told[2], told[3], other_swaps, ways[failing[0]])
        else:
            self.assertEqual((len(told), told[0], type(told[1])), (2, "goes", list))
            self.assertEqual([sum_of(counts, other_swaps, l) for counts in told[1]], ways)
        return told

    def test_told(self):
        for swaps, other_swaps, tariff, word in [
                ([], [], [[1, 0], [0, 1]], "goes"), ([[2, 0]], [[2, 0]], [[1, 0], [0, 1]], "goes"),
                ([[2, 0]], [[4, 0]], [[1, 0], [0, 1]], "fails"), ([[2, 0]], [[4, 0]], [[2, 0], [0, 1]], "goes"),
                ([[2, 0]], [], [[1, 0], [0, 1]], "fails"), ([[0, 3]], [], [[1, 0], [0, 0]], "goes"),
                ([[1, -2]], [[0, 5]], [[2, 1], [1, 3]], "goes"), ([[1, -2]], [[0, 5]], [[2, 1], [1, 2]], "fails"),
                ([[0, 0]], [[0, 0]], [[1, 0], [0, 1]], "goes"), ([[1, 1]], [[0, 0]], [[1, 0], [0, 1]], "fails")]:
            with self.subTest(swaps=swaps, other_swaps=other_swaps, tariff=tariff):
                self.assertEqual(self.check((2, swaps), (2, other_swaps), tariff)[0], word)
        self.assertEqual(goes((2, [[2, 0], [1, 1]]), (1, [[3]]), [[6], [-3]]), ("goes", [[4], [1]]))
        self.assertEqual(goes((1, [[2], [0]]), (2, [[1, 0], [0, 1]]), [[3, -4]]), ("goes", [[6, -8], [0, 0]]))
        self.assertEqual(goes((2, []), (1, [[3]]), [[1], [1]]), ("goes", []))
        self.assertEqual(goes((2, [[1, -1]]), (1, []), [[4], [4]]), ("goes", [[]]))

    def test_the_first_that_fails(self):
        mart, other_mart = (1, [[6], [0], [4], [3], [9]]), (1, [[6]])
        for given, at in ((1, 2), (2, 2), (3, 3), (5, 2), (9, 3)):
            told = self.check(mart, other_mart, [[given]])
            self.assertEqual(told[:2], ("fails", at))
        self.assertEqual(self.check(mart, other_mart, [[6]])[0], "goes")
        self.assertEqual(self.check((1, [[1]]), other_mart, [[5]])[:2], ("fails", 0))

    def test_of_no_kinds(self):
        self.assertEqual(self.check((0, []), (0, []), []), ("goes", []))
        self.assertEqual(self.check((0, [[], []]), (2, [[1, 2]]), []), ("goes", [[0], [0]]))
        self.assertEqual(self.check((2, [[1, 2]]), (0, []), [[], []]), ("goes", [[]]))
        self.check((2, [[1, 2]]), (0, [[], []]), [[], []])

    def test_by_chance(self):
        chance = random.Random(124)
        words = []
        for k, swaps in shapes(chance):
            for l in (0, 1, 2, 5, 8):
                other_swaps = some_rows(chance, 4, l)
                words.append(self.check((k, swaps), (l, other_swaps), some_rows(chance, k, l))[0])
                mart, other_mart, tariff = let_by(chance, k, l, range(-9, 10))
                self.assertEqual(self.check(mart, other_mart, tariff)[0], "goes")
                if l:
                    self.check(mart, (l, other_mart[1][1:]), tariff)
        self.assertEqual(set(words), {"goes", "fails"})

    def test_of_great_numbers(self):
        chance = random.Random(125)
        words = []
        for k, other_swaps in great_shapes(chance):
            swaps = great_rows(chance, 2, 3)
            words.append(self.check((3, swaps), (k, other_swaps), great_rows(chance, 3, k))[0])
            # Each given purse is made of the swaps, some of them taken often.
            tariff = [sum_of(great_purse(chance, len(other_swaps)), other_swaps, k) for _ in range(3)]
            self.assertEqual(self.check((3, swaps + [[GREAT, 0, 1]]), (k, other_swaps), tariff)[0], "goes")
        self.assertEqual(set(words), {"goes", "fails"})

    def test_of_many_swaps(self):
        chance = random.Random(126)
        swaps, other_swaps = great_rows(chance, 16, 8), great_rows(chance, 16, 8)
        self.check((8, swaps), (8, other_swaps), great_rows(chance, 8, 8))
        self.assertEqual(self.check((8, swaps), (8, swaps), singles(8))[0], "goes")
        self.check((8, swaps), (8, swaps[:7]), singles(8))

    def test_the_lists_are_own(self):
        chance = random.Random(127)
        for k, swaps in shapes(chance):
            check_own(self, goes, (k, swaps), (3, some_rows(chance, 2, 3)), some_rows(chance, k, 3))
            check_own(self, goes, *let_by(chance, k, 3, range(-5, 6)))
            check_own(self, goes, (k, swaps), (k, swaps), singles(k))


class TestBehind(unittest.TestCase):

    def test_told_tariffs(self):
        for first, second, l, told in [([], [], 0, []), ([], [[1], [2]], 1, []), ([[], []], [], 2, [[0, 0], [0, 0]]),
                                       ([[1, 2]], [[3], [5]], 1, [[13]]), ([[2]], [[3, -1]], 2, [[6, -2]]),
                                       ([[1, 0], [1, 1]], [[2, 0], [0, 3]], 2, [[2, 0], [2, 3]]),
                                       ([[0, 1], [1, 0]], [[1, 2], [3, 4]], 2, [[3, 4], [1, 2]])]:
            with self.subTest(first=first, second=second):
                self.assertEqual(behind(first, second, l), told)

    def test_each_purse_of_the_first_sent_by_the_second(self):
        chance = random.Random(128)
        for k in range(9):
            for l, m in ((0, 0), (0, 2), (2, 0), (1, 3), (3, 3), (8, 8)):
                first, second = some_rows(chance, k, l), some_rows(chance, l, m)
                told = behind(first, second, m)
                self.assertEqual(told, [sum_of(given, second, m) for given in first])
                purse = some_purse(chance, k)
                self.assertEqual(sent(told, purse, m), sent(second, sent(first, purse, l), m))

    def test_two_that_are_let_by(self):
        chance = random.Random(129)
        for k in range(9):
            for l in (0, 2, 8):
                mart, other_mart, first = let_by(chance, k, l, range(-9, 10))
                second = some_rows(chance, l, 2)
                third_mart = (2, [sum_of(swap, second, 2) for swap in other_mart[1]])
                self.assertEqual(goes(mart, third_mart, behind(first, second, 2))[0], "goes")

    def test_of_great_numbers(self):
        chance = random.Random(130)
        first, second = great_rows(chance, 8, 8), great_rows(chance, 8, 8)
        told = behind(first, second, 8)
        self.assertEqual(told, [sum_of(given, second, 8) for given in first])
        self.assertEqual(behind(told, second, 8), behind(first, behind(second, second, 8), 8))

    def test_the_lists_are_own(self):
        chance = random.Random(131)
        for k in range(9):
            for l in (0, 1, 3):
                check_own(self, behind, some_rows(chance, k, l), some_rows(chance, l, 2), 2)
        rows = [[1, 2], [3, 4]]
        check_own(self, behind, rows, rows, 2)
        check_own(self, behind, [rows[0], rows[0]], rows, 2)


class TestNoFit(unittest.TestCase):

    def test_of_sent(self):
        for l in range(9):
            for bad in bad_lists(l):
                # A purse that takes none of the bad ones is refused, too.
                check_refused(self, sent, bad, [1] * len(bad), l)
                check_refused(self, sent, bad, [0] * len(bad), l)
            for many in range(9):
                for purse in misfits(many):
                    check_refused(self, sent, [[1] * l for _ in range(many)], purse, l)

    def test_of_behind(self):
        for l in range(9):
            for bad in bad_lists(l):
                check_refused(self, behind, [[1] * len(bad)], bad, l)
                check_refused(self, behind, [[0] * len(bad)], bad, l)
                check_refused(self, behind, [], bad, l)
                check_refused(self, behind, bad, singles(l), l)
                check_refused(self, behind, bad, [[1] * 3 for _ in range(l)], 3)
            for k in (0, 2, 8):
                if k != l:
                    check_refused(self, behind, [[1] * l], [[1] * 3 for _ in range(k)], 3)
                    check_refused(self, behind, [[1] * 2], [[1] * l, [1] * l], k)

    def test_a_swap_of_either_mart(self):
        for k in range(9):
            for bad in bad_lists(k):
                for swaps in ([], [[0] * k], singles(k)):
                    with self.subTest(k=k, lengths=[len(row) for row in bad]):
                        check_refused(self, goes, (k, bad), (k, swaps), singles(k))
                        check_refused(self, goes, (k, swaps), (k, bad), singles(k))
                        check_refused(self, goes, (k, bad), (2, [[1, 1]]), [[1, 2]] * k)
                        check_refused(self, goes, (2, [[1, 1]]), (k, bad), [[1] * k] * 2)

    def test_a_purse_of_the_tariff(self):
        for l in range(9):
            for bad in bad_lists(l):
                for k in {len(bad), l}:
                    check_refused(self, goes, (k, []), (l, []), bad)
                    check_refused(self, goes, (k, [[1] * k]), (l, singles(l)), bad)
                    check_refused(self, goes, (k, [[0] * k]), (l, [[2] * l]), bad)

    def test_a_purse_more_or_fewer(self):
        for k in range(9):
            for many in {0, k - 1, k + 1, 2 * k, 16} - {k, -1}:
                for swaps in ([], [[0] * k], [[1] * k]):
                    for l in (0, 1, 3):
                        check_refused(self, goes, (k, swaps), (l, singles(l)), [[1] * l for _ in range(many)])
                        check_refused(self, goes, (k, swaps), (l, []), [[0] * l for _ in range(many)])
                # As many purses as a swap has numbers, where neither is as many as the kinds.
                check_refused(self, goes, (k, [[1] * many]), (2, []), [[1, 1] for _ in range(many)])

    def test_two_whose_lengths_make_up_for_one_another(self):
        for k in range(1, 9):
            for one, other in ((k - 1, k + 1), (k + 1, k - 1)):
                check_refused(self, goes, (k, [[1] * one, [1] * other]), (k, []), singles(k))
                check_refused(self, goes, (k, [[1] * one]), (k, [[1] * other]), singles(k))
                check_refused(self, goes, (k, []), (k, [[1] * one]), singles(k)[1:] + [[1] * other])
                check_refused(self, goes, (k, []), (k, [[1] * one]), [[1] * one for _ in range(k)])
                check_refused(self, goes, (k, []), (k, []), [[1] * k for _ in range(one)] + [[1] * other])

    def test_ahead_of_what_fails(self):
        # The first swap isn't sent to a purse worth nothing, and the one behind it doesn't fit.
        check_refused(self, goes, (1, [[1], [1, 1]]), (1, []), [[1]])
        check_refused(self, goes, (2, [[1, 0]]), (1, []), [[1], [1, 1]])
        check_refused(self, goes, (1, [[1]]), (1, [[2], []]), [[1]])


if __name__ == "__main__":
    unittest.main()
