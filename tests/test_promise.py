"""The whole promise over functions of all stages together: points 1, 2, 3 and 6."""

import copy
import itertools
import random
import unittest

from samples import (GREAT, bad_lists, check_dial, great_purse, great_shapes, made_of, moved, shapes, singles,
                     some_purse, some_rows, sum_of)
from swapmart.alike import alike
from swapmart.counts import all_worths, many_worths
from swapmart.desk import Desk
from swapmart.dials import hushed, round_of, silent
from swapmart.errors import MartError, NoFit, TooMany
from swapmart.losses import come_to, lost
from swapmart.meets import beside, joined, lies_in, met
from swapmart.papers import holds, same
from swapmart.purses import less, plus, taken
from swapmart.rungs import is_made, is_stair, led
from swapmart.splits import split_off
from swapmart.stairs import stair, with_counts
from swapmart.stocks import stock, within
from swapmart.tariffs import behind, goes, sent
from swapmart.texts import read, shown
from swapmart.wheels import purse_of, readings, wheels
from swapmart.worths import plain, span

NAMES = ["ore", "pin", "abcdefgh", "b", "nut", "a", "zip", "key"]


def swaps_otherwise(chance, k, swaps):
    """The swaps in another order, some of them taken back, one a sum more."""
    told = [taken(swap, chance.choice([1, -1])) for swap in swaps]
    for at in range(len(told) - 1):
        told[at] = plus(told[at], taken(told[-1], chance.choice([0, 1, -2])))
    told.append(sum_of(some_purse(chance, len(swaps)), swaps, k))
    chance.shuffle(told)
    return told


def in_order(order, rows):
    return [[row[kind] for kind in order] for row in rows]


def marts(chance):
    for k, swaps in shapes(chance):
        yield k, swaps
        yield k, swaps[:8] + [taken(token, chance.choice([1, 2, 6])) for token in singles(k)]


def round_or_none(mart):
    return round_of(mart) if many_worths(mart) else None


class TestMartsToldOtherwise(unittest.TestCase):

    def test_swaps_in_another_order_taken_back_and_summed(self):
        chance = random.Random(211)
        for k, swaps in marts(chance):
            mart, other = (k, swaps), (k, swaps_otherwise(chance, k, swaps))
            purses = some_rows(chance, 2, k, range(-9, 10))
            self.assertEqual(stair(other[1], k), stair(swaps, k))
            self.assertEqual(wheels(other)[0], wheels(mart)[0])
            self.assertEqual(many_worths(other), many_worths(mart))
            self.assertEqual(round_or_none(other), round_or_none(mart))
            self.assertEqual(stock(other, purses), stock(mart, purses))
            self.assertEqual(split_off(other, purses)[0], split_off(mart, purses)[0])
            for purse in purses:
                self.assertEqual(plain(other, purse), plain(mart, purse))
                self.assertEqual(span(other, purse), span(mart, purse))
            self.assertEqual(same(other, *purses)[0], same(mart, *purses)[0])
            self.assertEqual(within(other, purses[:1], purses[1])[0], within(mart, purses[:1], purses[1])[0])
            if round_or_none(mart):
                self.assertEqual(silent(other, purses), silent(mart, purses))
                self.assertEqual(hushed(other, purses), hushed(mart, purses))
            if 1 <= many_worths(mart) <= 200:
                self.assertEqual(all_worths(other), all_worths(mart))
            self.assertEqual(goes(mart, other, singles(k))[0], "goes")
            self.assertEqual(lost(mart, other, singles(k)), lost(other, mart, singles(k)))

    def test_kinds_in_another_order(self):
        chance = random.Random(212)
        for k, swaps in marts(chance):
            order = chance.sample(range(k), k)
            mart, other = (k, swaps), (k, in_order(order, swaps_otherwise(chance, k, swaps)))
            purses = some_rows(chance, 2, k, range(-9, 10))
            turned = in_order(order, purses)
            self.assertEqual(wheels(other)[0], wheels(mart)[0])
            self.assertEqual(many_worths(other), many_worths(mart))
            self.assertEqual(round_or_none(other), round_or_none(mart))
            self.assertEqual(alike(mart, other)[0], "alike")
            self.assertEqual([span(other, purse) for purse in turned], [span(mart, purse) for purse in purses])
            self.assertEqual(same(other, *turned)[0], same(mart, *purses)[0])
            self.assertEqual(plain(other, turned[0]) == plain(other, turned[1]),
                             plain(mart, purses[0]) == plain(mart, purses[1]))
            self.assertEqual(stock(other, turned), stair(in_order(order, stock(mart, purses)), k))
            self.assertEqual(split_off(other, turned)[0], split_off(mart, purses)[0])
            if round_or_none(mart):
                self.assertEqual(silent(other, turned), stair(in_order(order, silent(mart, purses)), k))
            # The tariff that gives a token for the same token goes, and loses nothing.
            tariff = in_order(order, singles(k))
            self.assertEqual(goes(mart, other, tariff)[0], "goes")
            self.assertEqual(lost(mart, other, tariff), stair(swaps, k))
            self.assertEqual(come_to(mart, other, tariff), singles(k))


class TestThePromise(unittest.TestCase):

    def test_counts_or_a_dial_and_never_both(self):
        chance = random.Random(213)
        for k, swaps in itertools.chain(marts(chance), great_shapes(chance)):
            mart, one = (k, swaps), great_purse(chance, k, 30)
            for other in (great_purse(chance, k, 30), moved(chance, one, swaps)):
                paper = same(mart, one, other)
                alike_plain = plain(mart, one) == plain(mart, other)
                alike_readings = readings(wheels(mart), one) == readings(wheels(mart), other)
                nothing = span(mart, less(other, one)) == 1
                word = within(mart, [], less(other, one))[0]
                self.assertEqual({alike_plain, alike_readings, nothing, word == "within"}, {paper[0] == "same"})
                self.assertTrue(holds(mart, one, other, paper))
                if paper[0] == "apart":
                    check_dial(self, paper[1], paper[2], swaps, less(other, one))
                else:
                    self.assertEqual(sum_of(paper[1], swaps, k), less(other, one))

    def test_each_worth_is_read_by_wheels_and_told_again(self):
        chance = random.Random(214)
        for k, swaps in itertools.chain(marts(chance), great_shapes(chance)):
            mart = (k, swaps)
            told = wheels(mart)
            purse = some_purse(chance, k, range(-99, 100))
            again = purse_of(told, readings(told, purse), k)
            self.assertEqual(plain(mart, again), plain(mart, purse))
            self.assertEqual(readings(told, plain(mart, purse)), readings(told, purse))

    def test_all_worths_are_parted(self):
        for k, swaps in [(2, [[2, 1], [0, 3]]), (2, [[4, 2], [2, 6]]), (3, [[1, 1, 1], [0, 2, 0], [0, 0, 2]]), (1, [[7]])]:
            mart = (k, swaps)
            told, worths = wheels(mart), all_worths(mart)
            self.assertEqual(len({tuple(readings(told, purse)) for purse in worths}), many_worths(mart))
            for one, other in itertools.product(worths, repeat=2):
                self.assertEqual(same(mart, one, other)[0] == "same", one == other)
            self.assertEqual(stock(mart, worths), singles(k))
            self.assertEqual(beside(stair(swaps, k), singles(k), k), len(worths))

    def test_a_stock_splits_off_with_what_is_left(self):
        chance = random.Random(215)
        for k, swaps in marts(chance):
            mart, purses = (k, swaps), some_rows(chance, 1, k)
            told = split_off(mart, purses)
            if told[0] == "splits":
                others = told[1]
                self.assertEqual(joined(stock(mart, purses), stock(mart, others), k), singles(k))
                self.assertEqual(met(stock(mart, purses), stock(mart, others), k), stair(swaps, k))
                # So the mart without the purses is alike with what is left, and counted by both.
                if many_worths(mart):
                    parts = [beside(stair(swaps, k), stock(mart, rows), k) for rows in (purses, others)]
                    self.assertEqual(parts[0] * parts[1], many_worths(mart))
            else:
                _, many, purse, root, weights, modulus = told
                self.assertEqual(within(mart, purses, purse)[0], "within")
                self.assertEqual(same(mart, taken(root, many), purse)[0], "same")
                self.assertEqual(within(mart, [taken(row, many) for row in purses], purse)[0], "without")
                check_dial(self, weights, modulus, swaps + [taken(row, many) for row in purses], purse)

    def test_silent_dials_tell_the_stock_again(self):
        chance = random.Random(216)
        for k, swaps in marts(chance):
            mart, purses = (k, swaps), some_rows(chance, 2, k)
            if many_worths(mart):
                dials = silent(mart, purses)
                self.assertTrue(is_stair(dials))
                self.assertEqual(hushed(mart, dials), stock(mart, purses))
                # Told as a mart of its own, what is silent is counted by what is beside the stock.
                beyond = beside(stock(mart, purses), singles(k), k)
                whole = [taken(token, round_of(mart)) for token in singles(k)] if k else []
                self.assertEqual(beside(whole, dials, k), beyond)

    def test_tariffs_one_behind_the_other(self):
        chance = random.Random(217)
        for k, swaps in marts(chance):
            mart = (k, swaps)
            others = [(k, swaps_otherwise(chance, k, swaps)), (k + 1, [swap + [0] for swap in swaps] + [[0] * k + [1]])]
            _, there, _ = alike(mart, others[0])
            told = alike(others[0], others[1])
            both = behind(there, told[1], k + 1)
            self.assertEqual(goes(mart, others[1], both)[0], "goes")
            self.assertEqual(lost(mart, others[1], both), stair(swaps, k))
            self.assertEqual(come_to(mart, others[1], both), singles(k + 1))
            purse = some_purse(chance, k)
            self.assertEqual(sent(both, purse, k + 1), sent(told[1], sent(there, purse, k), k + 1))


class TestDesk(unittest.TestCase):

    def test_a_desk_tells_what_the_functions_tell(self):
        chance = random.Random(218)
        for k, swaps in marts(chance):
            desk, names = Desk(), NAMES[:k]
            for name in names:
                desk.say(f"kind {name}")
            for swap in swaps[:16]:
                text = shown([(name, many) for name, many in zip(names, swap) if many])
                self.assertEqual(desk.say(f"swap 0 = {text}"), "ok")
            mart, purse = (k, swaps[:16]), some_purse(chance, k)
            text = shown([(name, many) for name, many in zip(names, purse) if many])
            self.assertEqual(dict(read(text)), {name: many for name, many in zip(names, purse) if many})
            self.assertEqual(desk.say("many"), str(many_worths(mart)))
            self.assertEqual(desk.say(f"span {text}"), str(span(mart, purse)))
            told = dict(read(desk.say(f"plain {text}")))
            self.assertEqual([told.get(name, 0) for name in names], plain(mart, purse))
            words = desk.say(f"same {text} = 0").split(" ")
            self.assertEqual(words[0] == "yes", same(mart, purse, [0] * k)[0] == "same")


class TestHandedIn(unittest.TestCase):

    def calls(self, k, swaps, purses):
        """Functions of all stages and what is handed in, one purse and one list at several places."""
        mart, one = (k, swaps), purses[0]
        rungs = stair(swaps, k)
        return [(stair, (swaps, k)), (with_counts, (swaps, k)), (led, (rungs, one)), (is_made, (rungs, one)),
                (same, (mart, one, one)), (plain, (mart, one)), (span, (mart, one)), (wheels, (mart,)),
                (many_worths, (mart,)), (stock, (mart, swaps)), (within, (mart, swaps, one)),
                (joined, (rungs, rungs, k)), (met, (rungs, rungs, k)), (lies_in, (rungs, rungs, k)),
                (beside, (rungs, rungs, k)), (goes, (mart, mart, singles(k))), (behind, (singles(k), singles(k), k)),
                (lost, (mart, mart, singles(k))), (come_to, (mart, mart, singles(k))), (alike, (mart, mart)),
                (split_off, (mart, swaps)), (split_off, (mart, purses))]

    def test_told_again_the_same_and_nothing_changed(self):
        chance = random.Random(219)
        for k, swaps in shapes(chance):
            calls = self.calls(k, swaps, some_rows(chance, 2, k))
            kept = copy.deepcopy(calls)
            first = [function(*handed) for function, handed in calls]
            again = [function(*handed) for function, handed in reversed(calls)]
            self.assertEqual(again[::-1], first)
            self.assertEqual(calls, kept)

    def test_what_was_told_is_handed_in_again(self):
        chance = random.Random(220)
        for k, swaps in great_shapes(chance):
            mart = (k, swaps)
            rungs = stair(swaps, k)
            # Marts made of what was told, of multiples of it, and of more rows than are handed in first.
            longer = (k, rungs + [taken(rung, 6) for rung in rungs] + swaps)
            self.assertEqual(wheels(longer)[0], wheels(mart)[0])
            self.assertEqual(alike(longer, mart)[0], "alike")
            told = wheels((k, [taken(rung, GREAT) for rung in rungs]))
            self.assertTrue(all(size % GREAT == 0 for size in told[0]))
            self.assertTrue(all(is_made(rungs, row) for row in stock(longer, [])))
            if many_worths(mart) > 1:
                dials = silent(mart, [])
                self.assertEqual(hushed(longer, dials), rungs)
                self.assertEqual(split_off((k, dials), [])[0], "splits")

    def test_no_kinds(self):
        mart = (0, [[], []])
        self.assertEqual((stair([[]], 0), plain(mart, []), span(mart, [])), ([], [], 1))
        self.assertEqual((wheels(mart), many_worths(mart), all_worths(mart)), (([], [], []), 1, [[]]))
        self.assertEqual((round_of(mart), silent(mart, [[]]), hushed(mart, [[]])), (1, [], []))
        self.assertEqual((alike(mart, (0, [])), split_off(mart, [[]])), (("alike", [], []), ("splits", [])))
        self.assertEqual((goes(mart, mart, []), lost(mart, mart, []), come_to(mart, mart, [])),
                         (("goes", [[0, 0], [0, 0]]), [], []))


class TestNoFit(unittest.TestCase):

    def test_of_each_function_that_is_handed_a_mart(self):
        for k in range(9):
            for bad in bad_lists(k):
                mart, good, one = (k, bad), (k, singles(k)), [0] * k
                for function, handed in [
                        (same, (mart, one, one)), (holds, (mart, one, one, ("same", []))), (plain, (mart, one)),
                        (span, (mart, one)), (wheels, (mart,)), (many_worths, (mart,)), (all_worths, (mart,)),
                        (stock, (mart, [])), (within, (mart, [], one)), (goes, (mart, good, singles(k))),
                        (goes, (good, mart, singles(k))), (lost, (mart, good, singles(k))),
                        (come_to, (good, mart, singles(k))), (alike, (mart, good)), (alike, (good, mart)),
                        (split_off, (mart, [])), (round_of, (mart,)), (silent, (mart, [])), (hushed, (mart, []))]:
                    with self.subTest(function.__name__, k=k):
                        self.assertRaises(NoFit, function, *handed)

    def test_refusals_are_mart_errors(self):
        for call in (lambda: plain((1, [[1, 2]]), [1]), lambda: all_worths((1, [])), lambda: round_of((1, [])),
                     lambda: beside([[1]], [], 1), lambda: lost((1, [[1]]), (1, []), [[1]]), lambda: read(""),
                     lambda: Desk().say(""), lambda: Desk().say("kind A"), lambda: Desk().say("plain a")):
            self.assertRaises(MartError, call)
        self.assertRaises(TooMany, all_worths, (1, []))


if __name__ == "__main__":
    unittest.main()
