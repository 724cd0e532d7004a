"""Stairs joined and met, one in another, and how many lie beside: points 2, 3, 15 and 21."""

import itertools
import random
import unittest

from samples import (GREAT, bad_lists, check_own, check_refused, check_stair, great_shapes, leads_of, made_of, misfits,
                     shapes, single, singles, some_purse, some_rows, sum_of)
from swapmart.errors import NoFit, NoPart
from swapmart.meets import beside, joined, lies_in, met
from swapmart.stairs import stair


def pairs(chance):
    """Two stairs of one k, of many shapes."""
    for k, rows in shapes(chance):
        for many in (0, 1, 2, 4, 8):
            yield k, stair(rows, k), stair(some_rows(chance, many, k, range(-9, 10)), k)


def great_pairs(chance):
    stairs = [(k, stair(rows, k)) for k, rows in great_shapes(chance)]
    for (k, one), (other_k, other) in itertools.combinations(stairs, 2):
        if k == other_k and max(len(one), len(other)) > 1:
            yield k, one, other


def small_stairs():
    """Stairs of two kinds with small leads, those that don't end among them."""
    rows = [[], [[2, 1]], [[0, 3]], [[1, 0]], [[2, 0], [0, 2]], [[2, 1], [0, 4]], [[3, 1], [0, 2]], [[1, 5], [0, 6]],
            [[6, 0], [0, 1]], [[4, 6]], [[4, 2], [0, 6]]]
    return [stair(some, 2) for some in rows]


class TestJoined(unittest.TestCase):

    def test_told_stairs(self):
        for one, other, told in [([], [], []), ([[2, 1]], [], [[2, 1]]), ([[4, 0]], [[6, 0]], [[2, 0]]),
                                 ([[2, 1]], [[0, 3]], [[2, 1], [0, 3]]), ([[2, 0], [0, 2]], [[1, 1]], [[1, 1], [0, 2]]),
                                 ([[1, 2]], [[1, 0]], [[1, 0], [0, 2]]), ([[2, 0]], [[3, 0]], [[1, 0]])]:
            with self.subTest(one=one, other=other):
                self.assertEqual(joined(one, other, 2), told)
                self.assertEqual(joined(other, one, 2), told)

    def test_it_is_the_stair_of_both_rows(self):
        chance = random.Random(101)
        for k, one, other in itertools.chain(pairs(chance), great_pairs(chance)):
            told = joined(one, other, k)
            check_stair(self, told, k)
            self.assertEqual(told, stair(one + other, k))
            self.assertEqual(joined(other, one, k), told)
            self.assertTrue(all(made_of(told, row) for row in one + other))

    def test_with_itself_and_with_none(self):
        chance = random.Random(102)
        for k, one, _ in pairs(chance):
            self.assertEqual(joined(one, one, k), one)
            self.assertEqual(joined(one, [], k), one)
            self.assertEqual(joined([], one, k), one)
            self.assertEqual(joined(one, singles(k), k), singles(k))
        self.assertEqual(joined([], [], 0), [])

    def test_the_lists_are_own(self):
        chance = random.Random(103)
        for k, one, other in pairs(chance):
            check_own(self, joined, one, other, k)
        rungs = [[2, 1], [0, 3]]
        check_own(self, joined, rungs, rungs, 2)
        check_own(self, joined, rungs, [], 2)


class TestMet(unittest.TestCase):

    def test_told_stairs(self):
        for one, other, told in [([], [], []), ([[2, 1]], [], []), ([[4, 0]], [[6, 0]], [[12, 0]]),
                                 ([[2, 1]], [[0, 3]], []), ([[2, 0], [0, 2]], [[1, 1]], [[2, 2]]),
                                 ([[1, 0], [0, 1]], [[5, 7]], [[5, 7]]), ([[2, 0], [0, 1]], [[1, 0], [0, 3]],
                                                                          [[2, 0], [0, 3]]),
                                 ([[1, 1], [0, 2]], [[1, 0], [0, 3]], [[1, 3], [0, 6]]), ([[1, 2]], [[1, 0]], [])]:
            with self.subTest(one=one, other=other):
                self.assertEqual(met(one, other, 2), told)
                self.assertEqual(met(other, one, 2), told)

    def test_each_small_purse(self):
        for one, other in itertools.product(small_stairs(), repeat=2):
            told = met(one, other, 2)
            check_stair(self, told, 2)
            for purse in itertools.product(range(13), range(-12, 13)):
                both = made_of(one, purse) and made_of(other, purse)
                self.assertEqual(made_of(told, purse), both, (one, other, purse))

    def check(self, k, one, other):
        """Each row is made of both, and as many lie beside what is met as lie beside the other one in the joined."""
        told = met(one, other, k)
        check_stair(self, told, k)
        self.assertTrue(all(made_of(one, row) and made_of(other, row) for row in told))
        both = stair(one + other, k)
        # As many rungs are met as are lost by joining, so that none that is free of the others is left out.
        self.assertEqual(len(told) + len(both), len(one) + len(other))
        self.assertEqual(met(other, one, k), told)
        # Beside one another they are counted by leads, which is exact where all kinds have a rung.
        if len(one) == len(other) == k:
            self.assertEqual(leads_of(told) * leads_of(both), leads_of(one) * leads_of(other))
        return told

    def test_by_chance(self):
        chance = random.Random(104)
        for k, one, other in pairs(chance):
            told = self.check(k, one, other)
            for _ in range(8):
                # What comes of the one is in what is met just where the other one makes it, too.
                purse = sum_of(some_purse(chance, len(one), range(-6, 7)), one, k)
                self.assertEqual(made_of(told, purse), made_of(other, purse))
            whole = leads_of(other)
            if len(other) == k:
                purse = [whole * number for number in sum_of(some_purse(chance, len(one)), one, k)]
                self.assertTrue(made_of(told, purse))

    def test_of_rows_with_some_in_both(self):
        chance = random.Random(105)
        for k in range(1, 9):
            for _ in range(6):
                common = some_rows(chance, 2, k)
                one = stair(common + some_rows(chance, 1, k, range(-9, 10)), k)
                other = stair(common + some_rows(chance, 1, k, range(-9, 10)), k)
                told = self.check(k, one, other)
                self.assertTrue(all(made_of(told, row) for row in common))

    def test_of_great_numbers(self):
        chance = random.Random(106)
        for k, one, other in great_pairs(chance):
            self.check(k, one, other)
        self.assertEqual(met([[GREAT]], [[GREAT + 1]], 1), [[GREAT * (GREAT + 1)]])

    def test_with_itself_and_with_none(self):
        chance = random.Random(107)
        for k, one, _ in pairs(chance):
            self.assertEqual(met(one, one, k), one)
            self.assertEqual(met(one, [], k), [])
            self.assertEqual(met([], one, k), [])
            self.assertEqual(met(one, singles(k), k), one)
            self.assertEqual(met(singles(k), one, k), one)
        self.assertEqual(met([], [], 0), [])

    def test_what_was_told_is_handed_in_again(self):
        chance = random.Random(108)
        for k, one, other in great_pairs(chance):
            told = met(one, other, k)
            self.assertEqual(met(told, one, k), told)
            self.assertEqual(met(other, told, k), told)
            self.assertEqual(joined(told, one, k), one)
            self.assertEqual(met(joined(one, other, k), one, k), one)

    def test_the_lists_are_own(self):
        chance = random.Random(109)
        for k, one, other in pairs(chance):
            check_own(self, met, one, other, k)
        rungs = [[2, 1], [0, 3]]
        check_own(self, met, rungs, rungs, 2)


class TestLiesIn(unittest.TestCase):

    def test_told(self):
        for inner, outer, lies in [([], [], True), ([], [[2, 1]], True), ([[2, 1]], [], False),
                                   ([[2, 1]], [[2, 1]], True), ([[4, 2]], [[2, 1]], True), ([[2, 1]], [[4, 2]], False),
                                   ([[3, 0]], [[2, 0]], False), ([[2, 2]], [[1, 1], [0, 2]], True),
                                   ([[2, 0], [0, 2]], [[1, 1], [0, 2]], True),
                                   ([[1, 1], [0, 2]], [[2, 0], [0, 2]], False), ([[2, 0], [0, 1]], [[2, 0]], False),
                                   ([[2, 0]], [[2, 0], [0, 1]], True), ([[4, 0], [0, 3]], [[2, 0], [0, 2]], False)]:
            with self.subTest(inner=inner, outer=outer):
                self.assertIs(lies_in(inner, outer, 2), lies)
        self.assertIs(lies_in([], [], 0), True)

    def test_by_chance(self):
        chance = random.Random(110)
        seen = set()
        for k, one, other in itertools.chain(pairs(chance), great_pairs(chance)):
            lies = lies_in(one, other, k)
            self.assertIs(lies, all(made_of(other, row) for row in one))
            self.assertIs(lies, stair(one + other, k) == other)
            self.assertIs(lies_in(one, stair(one + other, k), k), True)
            self.assertIs(lies_in(one, one, k), True)
            self.assertIs(lies_in([], one, k), True)
            seen.add(lies)
        self.assertEqual(seen, {True, False})

    def test_nothing_is_changed(self):
        chance = random.Random(111)
        for k, one, other in pairs(chance):
            check_own(self, lies_in, one, other, k)
            check_own(self, lies_in, one, one, k)


class TestBeside(unittest.TestCase):

    def test_told_numbers(self):
        for inner, outer, many in [([], [], 1), ([], [[2, 1]], 0), ([[2, 1]], [[2, 1]], 1), ([[6, 3]], [[2, 1]], 3),
                                   ([[2, 0], [0, 2]], [[1, 1], [0, 2]], 2), ([[2, 0], [0, 2]], [[1, 0], [0, 1]], 4),
                                   ([[2, 0]], [[1, 0], [0, 1]], 0), ([[0, 5]], [[0, 1]], 5), ([[0, 5]], [[1, 0], [0, 1]], 0),
                                   ([[3, 1], [0, 4]], [[1, 0], [0, 1]], 12), ([[4, 2]], [[2, 1], [0, 3]], 0)]:
            with self.subTest(inner=inner, outer=outer):
                self.assertEqual(beside(inner, outer, 2), many)
        self.assertEqual(beside([], [], 0), 1)
        self.assertEqual(beside([[GREAT]], [[1]], 1), GREAT)
        self.assertEqual(beside([[GREAT ** 3, 0], [0, GREAT]], [[GREAT, 0], [0, 1]], 2), GREAT ** 3)

    def test_counted_one_by_one(self):
        for inner, outer in itertools.product(small_stairs(), repeat=2):
            if lies_in(inner, outer, 2) and len(inner) == 2:
                # Each purse is beside one of these, all of which are led down the inner stair already.
                rests = {tuple(purse) for purse in itertools.product(range(inner[0][0]), range(inner[1][1]))
                         if made_of(outer, purse)}
                self.assertEqual(beside(inner, outer, 2), len(rests))

    def test_by_chance(self):
        chance = random.Random(112)
        for k, one, other in itertools.chain(pairs(chance), great_pairs(chance)):
            self.assertEqual(beside(one, one, k), 1)
            self.assertEqual(beside([], one, k), 0 if one else 1)
            both = stair(one + other, k)
            many = beside(one, both, k)
            self.assertEqual(many == 0, len(one) < len(both))
            # As many lie beside the one in both joined as beside what is met in the other one.
            self.assertEqual(beside(met(one, other, k), other, k), many)
            often = stair([[3 * number for number in row] for row in one], k)
            self.assertEqual(beside(often, one, k), 3 ** len(one))
            self.assertEqual(beside(often, both, k), 3 ** len(one) * many)

    def test_no_part(self):
        chance = random.Random(113)
        refused = 0
        for k, one, other in itertools.chain(pairs(chance), great_pairs(chance)):
            if not all(made_of(other, row) for row in one):
                refused += 1
                with self.assertRaises(NoPart) as caught:
                    beside(one, other, k)
                self.assertIs(type(caught.exception), NoPart)
        self.assertGreater(refused, 50)
        for k in range(1, 9):
            self.assertRaises(NoPart, beside, [single(k, 0)], [], k)
            self.assertRaises(NoPart, beside, [single(k, k - 1)], [[2 * number for number in single(k, k - 1)]], k)
        # As long, and with leads that the outer one's divide, but it doesn't lie in it.
        self.assertRaises(NoPart, beside, [[2, 1], [0, 2]], [[2, 0], [0, 2]], 2)
        self.assertRaises(NoPart, beside, [[4, 0, 0], [0, 0, 4]], [[2, 0, 0], [0, 2, 0]], 3)

    def test_nothing_is_changed(self):
        chance = random.Random(114)
        for k, one, other in pairs(chance):
            check_own(self, beside, one, stair(one + other, k), k)
            check_own(self, beside, one, one, k)


class TestNoFit(unittest.TestCase):

    def test_a_row_of_another_length(self):
        for function in (joined, met, lies_in, beside):
            for k in range(9):
                for bad in bad_lists(k):
                    for good in ([], singles(k), singles(k)[:1]):
                        with self.subTest(function.__name__, k=k, lengths=[len(row) for row in bad]):
                            check_refused(self, function, bad, good, k)
                            check_refused(self, function, good, bad, k)
                            check_refused(self, function, bad, bad, k)

    def test_two_whose_lengths_make_up_for_one_another(self):
        for function in (joined, met, lies_in, beside):
            for k in range(1, 9):
                for one, other in ((k - 1, k + 1), (k + 1, k - 1)):
                    check_refused(self, function, [[1] * one], [[1] * other], k)

    def test_rows_that_fit_one_another_but_not_k(self):
        for function in (joined, met, lies_in, beside):
            for k in (0, 1, 3, 8):
                check_refused(self, function, [[2, 1]], [[1, 0], [0, 1]], k)
                check_refused(self, function, [[2, 1]], [], k)
                check_refused(self, function, [], [[2, 1]], k)

    def test_ahead_of_no_part(self):
        for k in range(1, 9):
            for bad in misfits(k):
                self.assertRaises(NoFit, beside, [single(k, 0)], [bad], k)
                self.assertRaises(NoFit, beside, [single(k, 0), bad], [], k)


if __name__ == "__main__":
    unittest.main()
