"""Texts of named tokens, read and shown: points 2, 3 and 29."""

import copy
import random
import unittest

from samples import spoil
from swapmart.errors import NoText
from swapmart.texts import read, shown

NAMES = ["a", "z", "ab", "ba", "penny", "shilling", "abcdefgh", "zzzzzzzz"]


def some_pairs(chance, figures=60):
    many = chance.randrange(6)
    return [(name, chance.choice([1, -1, 2, -7, 10 ** 59, chance.randrange(1, 10 ** figures)]))
            for name in chance.sample(NAMES, many)]


class TestRead(unittest.TestCase):

    def check(self, text, told):
        found = read(text)
        self.assertIs(type(found), list)
        for pair in found:
            self.assertEqual((type(pair), len(pair), type(pair[0]), type(pair[1])), (tuple, 2, str, int))
        self.assertEqual(found, told)

    def test_told_pairs(self):
        for text, told in [("a", [("a", 1)]), ("-a", [("a", -1)]), ("2 a", [("a", 2)]), ("-2 a", [("a", -2)]),
                           ("1 a", [("a", 1)]), ("10 penny", [("penny", 10)]), ("a+b", [("a", 1), ("b", 1)]),
                           ("a-b", [("a", 1), ("b", -1)]), ("2 a-3 b+c", [("a", 2), ("b", -3), ("c", 1)]),
                           ("-a-b", [("a", -1), ("b", -1)]), ("101 a", [("a", 101)]), ("90 z", [("z", 90)])]:
            with self.subTest(text):
                self.check(text, told)

    def test_blanks_wherever_they_may_stand(self):
        for text in ("2 a-3 b", " 2 a-3 b", "2 a-3 b ", "2  a-3    b", "2 a -3 b", "2 a- 3 b", "2 a - 3 b",
                     "  2   a   -   3   b  ", "   2 a-3 b   "):
            with self.subTest(text):
                self.check(text, [("a", 2), ("b", -3)])
        for text in ("-a", "- a", " -a", " -  a ", "-    a"):
            self.check(text, [("a", -1)])

    def test_blanks_within_a_number_or_a_name(self):
        for text in ("1 2 a", "a b", "2 a b", "1 2", "ab c", "2 3 a", "a 2", "a b + c", "c + a b"):
            with self.subTest(text):
                self.assertRaises(NoText, read, text)

    def test_sorted_by_names(self):
        self.check("z+b+ab+a", [("a", 1), ("ab", 1), ("b", 1), ("z", 1)])
        self.check("b - 2 aa + 3 a", [("a", 3), ("aa", -2), ("b", 1)])

    def test_names_that_come_more_than_once(self):
        self.check("a+a", [("a", 2)])
        self.check("a + 2 b - 3 a + b + 5 a", [("a", 3), ("b", 3)])
        self.check("-a-a-a", [("a", -3)])
        self.check("+".join(["a"] * 100), [("a", 100)])
        nines = "9" * 60
        self.check(f"{nines} a + {nines} a", [("a", 2 * (10 ** 60 - 1))])

    def test_terms_that_come_to_nothing(self):
        self.check("a-a", [])
        self.check("-a+a", [])
        self.check("2 a - a - a", [])
        self.check("a + b - a", [("b", 1)])
        self.check("3 a - 2 b - 3 a + 2 b", [])

    def test_nought_alone(self):
        for text in ("0", " 0", "0 ", "   0   ", " " * 199 + "0"):
            with self.subTest(text):
                self.check(text, [])
        for text in ("00", "-0", "- 0", "+0", "0 0", "0+0", "0 a", "0a", "0 + a", "a + 0", "a - 0", "0-a", "0 - a",
                     "-0 a", "a + 0 b", "a 0", "0.", " 0 0 ", "a+0 "):
            with self.subTest(text):
                self.assertRaises(NoText, read, text)

    def test_a_nought_ahead(self):
        for text in ("01 a", "00 a", "-02 a", "a + 01 b", "007 bond", "0" * 59 + "1 a"):
            with self.subTest(text):
                self.assertRaises(NoText, read, text)

    def test_figures(self):
        for figures in (1, 2, 9, 59, 60):
            for number in (10 ** (figures - 1), 10 ** figures - 1):
                self.check(f"{number} a", [("a", number)])
                self.check(f"b - {number} a", [("a", -number), ("b", 1)])
        for figures in (61, 62, 100, 198):
            for number in (10 ** (figures - 1), 10 ** figures - 1):
                self.assertRaises(NoText, read, f"{number} a")
        self.assertRaises(NoText, read, f"b - {10 ** 60} a")

    def test_letters(self):
        for name in NAMES + ["abcdefghijklmnopqrstuvwxyz"[at:at + 8] for at in range(19)]:
            self.check(name, [(name, 1)])
            self.check(f"3 {name}", [(name, 3)])
        for name in ("abcdefghi", "a" * 9, "a" * 200, "A", "aB", "Abc", "a1", "1a", "a_b", "a.b", "a'", "ab9"):
            for text in (name, f"2 {name}", f"a + {name}", f"-{name} - b"):
                with self.subTest(text):
                    self.assertRaises(NoText, read, text)

    def test_a_number_and_a_name_are_parted(self):
        for text in ("2a", "-2a", "a+2b", "2 a - 3b", "12penny"):
            with self.subTest(text):
                self.assertRaises(NoText, read, text)

    def test_signs_twice_ahead_and_at_the_end(self):
        for text in ("", " ", "    ", "+", "-", "+a", "+ a", "--a", "- -a", "a++b", "a--b", "a+-b", "a-+b", "a + - b",
                     "a - - b", "a+", "a-", "a + ", "a + b -", "-", "- ", "+ -", "a - + b", "-+a", "+-a", "+2 a", "2",
                     "12 ", "-3", "a + 3", "3 + a", "2 - 3 a", "2 +", "3 -a", "a 2 b", "2 + 3"):
            with self.subTest(text):
                self.assertRaises(NoText, read, text)

    def test_two_hundred_signs_and_one_more(self):
        terms = "+".join(["a"] * 100)
        self.assertEqual(len(terms), 199)
        self.check("-" + terms, [("a", 98)])
        self.check(terms + " ", [("a", 100)])
        self.check("a" + " " * 199, [("a", 1)])
        for text in ("-" + terms + " ", " " + terms + " ", "a" + " " * 200, " " * 200 + "a", " " * 200 + "0",
                     "+".join(["a"] * 101), " " * 201, "a" * 201, "a+" * 150 + "a"):
            self.assertGreater(len(text), 200)
            self.assertRaises(NoText, read, text)

    def test_tabs_and_other_signs(self):
        for text in ("a\t", "\ta", "a\n", "\na", "2\ta", "a\t+ b", "a +\nb", "a\r", "a\x0b", "a\x00", "2\u00a0a", "a\u2003",
                     "a*b", "2*a", "a/b", "(a)", "a=b", "a,b", "a;b", "2.5 a", "1_000 a", "1e3 a", "0x1 a", "\u00e4",
                     "\u0661 a", "\u00b2 a", "\uff12 a", "\uff41", "a\u2212b", "a \u2013 b", "\u00df", "1,000 a", "a\u0301",
                     "\u0967\u0968 a", "a + \u0661 b", "\u00aa", "\u0131"):
            with self.subTest(ascii(text)):
                self.assertRaises(NoText, read, text)

    def test_things_that_are_no_texts(self):
        for thing in (None, 0, 1, True, False, 2.5, b"a", b"0", bytearray(b"a"), ["a"], ("a",), [("a", 1)], {"a": 1},
                      {"a"}, [], (), {}, object(), str, len, range(3), 1j, iter("a"), NotImplemented):
            with self.subTest(repr(thing)):
                with self.assertRaises(NoText) as caught:
                    read(thing)
                self.assertIs(type(caught.exception), NoText)

    def test_the_same_again_and_own(self):
        told = read("a + 2 b")
        again = read("a + 2 b")
        self.assertIsNot(told, again)
        again.append(("c", 3))
        self.assertEqual(told, [("a", 1), ("b", 2)])
        spoil(told)
        self.assertEqual(read("a + 2 b"), [("a", 1), ("b", 2)])
        self.assertIsNot(read("0"), read("0"))


class TestShown(unittest.TestCase):

    def test_told_texts(self):
        for pairs, text in [([], "0"), ([("a", 1)], "a"), ([("a", -1)], "- a"), ([("a", 2)], "2 a"),
                            ([("a", -2)], "- 2 a"), ([("a", 1), ("b", 1)], "a + b"), ([("a", 1), ("b", -1)], "a - b"),
                            ([("a", -1), ("b", -1)], "- a - b"), ([("b", 3), ("a", -5)], "3 b - 5 a"),
                            ([("c", -3), ("a", 1), ("b", 12)], "- 3 c + a + 12 b"), ([("penny", 10)], "10 penny"),
                            ([("a", 11), ("b", -11)], "11 a - 11 b")]:
            with self.subTest(pairs):
                self.assertEqual(shown(pairs), text)

    def test_in_the_order_of_the_list(self):
        self.assertEqual(shown([("z", 1), ("a", 2), ("m", -3)]), "z + 2 a - 3 m")
        self.assertEqual(shown([("m", -3), ("z", 1), ("a", 2)]), "- 3 m + z + 2 a")

    def test_of_many_figures(self):
        for figures in (60, 61, 300, 4000):
            number = 10 ** figures - 1
            self.assertEqual(shown([("a", number), ("b", -number)]), f"{'9' * figures} a - {'9' * figures} b")

    def test_what_is_shown_is_read_again(self):
        chance = random.Random(191)
        for _ in range(300):
            pairs = some_pairs(chance, 9)
            text = shown(pairs)
            if len(text) <= 200:
                self.assertEqual(read(text), sorted(pairs))
                self.assertEqual(shown(read(text)), shown(sorted(pairs)))
        for pairs in ([], [("abcdefgh", -10 ** 59), ("b", 1), ("z", 10 ** 60 - 1)]):
            self.assertEqual(read(shown(pairs)), pairs)

    def test_nothing_is_changed(self):
        chance = random.Random(192)
        for _ in range(50):
            pairs = some_pairs(chance)
            kept = copy.deepcopy(pairs)
            text = shown(pairs)
            self.assertEqual(pairs, kept)
            self.assertIs(type(text), str)
            self.assertEqual(shown(kept), text)


if __name__ == "__main__":
    unittest.main()
