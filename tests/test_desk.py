"""The desk: points 2, 3 and 30."""

import random
import unittest

from samples import check_dial, left_of, sum_of
from swapmart.counts import many_worths
from swapmart.desk import Desk
from swapmart.errors import NoName, NoRow, NoText, TooMany, Twice
from swapmart.papers import holds, same
from swapmart.stairs import stair
from swapmart.texts import read, shown
from swapmart.wheels import wheels
from swapmart.worths import plain, span

NAMES = ["pin", "nail", "a", "bolt", "zip", "abcdefgh", "key", "b"]


def desk_of(*rows):
    """A desk that was told some rows, each of which it took."""
    desk = Desk()
    for row in rows:
        assert desk.say(row) == "ok", row
    return desk


def full_desk():
    return desk_of(*[f"kind {name}" for name in NAMES], *[f"swap {at + 2} pin = {at} nail" for at in range(1, 17)])


QUESTIONS = ["wheels", "many", "plain 5 pin - nail", "span pin", "same pin = nail", "same 0 = 0", "same 3 pin = nail"]


def asked(desk, questions=QUESTIONS):
    """What a desk answers, or how it refuses."""
    told = []
    for row in questions:
        try:
            told.append(desk.say(row))
        except ValueError as e:
            told.append(type(e).__name__)
    return told


class Sum:
    """A mart and its names, kept apart from the program."""

    def __init__(self):
        self.names, self.swaps = [], []

    def mart(self):
        return len(self.names), self.swaps

    def kind(self, name):
        self.names.append(name)
        self.swaps = [swap + [0] for swap in self.swaps]

    def swap(self, one, other):
        self.swaps.append([more - mine for mine, more in zip(one, other)])

    def text(self, chance, purse):
        """A text of the purse, its terms mingled and some of them told in two."""
        terms = []
        for name, many in zip(self.names, purse):
            part = chance.choice([0, 0, 0, 5, -2])
            terms += [(name, some) for some in (many - part, part) if some != 0]
        chance.shuffle(terms)
        return shown(terms).replace(" ", chance.choice([" ", "  "]))


class TestKind(unittest.TestCase):

    def test_a_new_kind(self):
        desk = Desk()
        for name in NAMES:
            self.assertEqual(desk.say(f"kind {name}"), "ok")
        self.assertEqual(desk.say("wheels"), "0 0 0 0 0 0 0 0")
        self.assertEqual(desk.say("plain b + pin"), "pin + b")

    def test_it_is_nought_in_each_swap_that_stands(self):
        desk = desk_of("kind a", "kind b", "swap 2 a = 3 b", "swap 5 b = 0", "kind c", "swap c = a")
        self.assertEqual(desk.say("same 2 a = 3 b"), "yes 1 0 0")
        self.assertEqual(desk.say("same c + 5 b = a"), "yes 0 1 1")
        self.assertEqual(desk.say("many"), str(many_worths((3, [[-2, 3, 0], [0, -5, 0], [1, 0, -1]]))))
        desk.say("kind d")
        self.assertEqual(desk.say("many"), "0")
        self.assertEqual(desk.say("same 2 a = 3 b"), "yes 1 0 0")

    def test_a_name_that_is_none(self):
        for rest in ("", " ", "A", "Abc", "a1", "1", "abcdefghi", " a", "a ", "a b", "kind", "2 a", "-a", "a+b", "0", "a\n",
                     "a\t", "=", "a = b", "\u00e4", "_a", "z" * 300):
            desk = desk_of("kind b")
            if rest == "kind":
                self.assertEqual(desk.say("kind kind"), "ok")
                continue
            with self.subTest(ascii(rest)):
                with self.assertRaises(NoName) as caught:
                    desk.say("kind " + rest)
                self.assertIs(type(caught.exception), NoName)
                self.assertEqual(desk.say("wheels"), "0")

    def test_words_are_names(self):
        desk = desk_of("kind kind", "kind swap", "kind same", "kind plain", "kind span", "kind wheels", "kind many",
                       "kind yes")
        self.assertEqual(desk.say("plain swap - many + 2 wheels"), "swap + 2 wheels - many")

    def test_twice(self):
        desk = desk_of("kind a", "kind b")
        for name in ("a", "b"):
            with self.assertRaises(Twice) as caught:
                desk.say(f"kind {name}")
            self.assertIs(type(caught.exception), Twice)
        self.assertEqual(desk.say("wheels"), "0 0")

    def test_a_ninth_kind(self):
        desk = desk_of(*[f"kind {name}" for name in NAMES])
        with self.assertRaises(TooMany) as caught:
            desk.say("kind ninth")
        self.assertIs(type(caught.exception), TooMany)
        self.assertRaises(TooMany, desk.say, "kind tenth")
        self.assertEqual(desk.say("wheels"), "0 0 0 0 0 0 0 0")
        self.assertRaises(NoName, desk.say, "plain ninth")
        # One that stands is refused as such, and what is no name as that.
        self.assertRaises(Twice, desk.say, "kind pin")
        self.assertRaises(NoName, desk.say, "kind Ninth")


class TestSwap(unittest.TestCase):

    def test_a_new_swap(self):
        desk = desk_of("kind a", "kind b", "swap 2 a = 3 b")
        self.assertEqual(desk.say("same 2 a = 3 b"), "yes 1")
        self.assertEqual(desk.say("same 3 b = 2 a"), "yes -1")
        self.assertEqual(desk.say("plain 2 a"), "3 b")
        self.assertEqual(desk.say("swap a - a = 0"), "ok")
        self.assertEqual(desk.say("same 4 a = 6 b")[:6], "yes 2 ")

    def test_blanks_in_the_texts(self):
        for row in ("swap 2 a = b", "swap   2   a  =   b  ", "swap  2 a =  b", "swap 2 a  = b "):
            self.assertEqual(desk_of("kind a", "kind b", row).say("same 2 a = b"), "yes 1")

    def test_a_seventeenth_swap(self):
        desk = full_desk()
        for row in ("swap pin = nail", "swap 0 = 0"):
            with self.assertRaises(TooMany) as caught:
                desk.say(row)
            self.assertIs(type(caught.exception), TooMany)
        self.assertEqual(len(desk.say("same 0 = 0").split(" ")), 17)
        self.assertRaises(NoName, desk.say, "swap pin = nut")
        self.assertRaises(NoText, desk.say, "swap pin = 0 nut")
        self.assertRaises(NoRow, desk.say, "swap pin nut")

    def test_swaps_that_come_to_nothing_count(self):
        desk = desk_of(*["swap 0 = 0"] * 16)
        self.assertEqual(desk.say("same 0 = 0").split(" ")[0], "yes")
        self.assertRaises(TooMany, desk.say, "swap 0 = 0")


class TestSame(unittest.TestCase):

    def test_told(self):
        desk = desk_of("kind a", "kind b")
        self.assertEqual(desk.say("same a = a"), "yes")
        self.assertEqual(desk.say("same a - b = -b + a"), "yes")
        self.assertEqual(Desk().say("same 0 = 0"), "yes")
        desk = desk_of("kind a", "kind b", "swap a = 2 a", "swap 0 = b")
        self.assertEqual(desk.say("same 0 = 2 a - b"), "yes 2 -1")
        desk = desk_of("kind a", "swap 0 = 3 a")
        word, weight, by, modulus = desk.say("same 0 = a").split(" ")
        self.assertEqual((word, by), ("no", "by"))
        self.assertTrue(int(weight) % int(modulus) != 0 and 3 * int(weight) % int(modulus) == 0)

    def check(self, desk, kept, one, other, row):
        words = desk.say(row).split(" ")
        paper = same(kept.mart(), one, other)
        if paper[0] == "same":
            self.assertEqual(words[0], "yes")
            counts = [int(word) for word in words[1:]]
            self.assertEqual(sum_of(counts, kept.swaps, len(one)), [more - mine for mine, more in zip(one, other)])
            self.assertTrue(holds(kept.mart(), one, other, ("same", counts)))
        else:
            self.assertEqual((words[0], words[-2], len(words)), ("no", "by", len(one) + 3))
            weights, modulus = [int(word) for word in words[1:-2]], int(words[-1])
            check_dial(self, weights, modulus, kept.swaps, [more - mine for mine, more in zip(one, other)])
        return words[0]

    def test_by_chance(self):
        chance = random.Random(201)
        words = []
        for numbers in ([0, 0, 1, -1, 2, -3, 6], [0, 10 ** 20, -10 ** 19 + 1, 1]):
            for _ in range(30):
                desk, kept = Desk(), Sum()
                for name in NAMES[:chance.randrange(9)]:
                    desk.say(f"kind {name}")
                    kept.kind(name)
                for _ in range(chance.randrange(5)):
                    one, other = ([chance.choice(numbers) for _ in kept.names] for _ in range(2))
                    row = f"swap {kept.text(chance, one)} = {kept.text(chance, other)}"
                    if max(len(part) for part in row.split("=")) > 190:
                        continue
                    self.assertEqual(desk.say(row), "ok")
                    kept.swap(one, other)
                one = [chance.choice([0, 1, -1, 7]) for _ in kept.names]
                way = sum_of([chance.choice([1, -1, 2]) for _ in kept.swaps], kept.swaps, len(one))
                some = [chance.choice([0, 1, -4]) for _ in kept.names]
                for other in ([mine + more for mine, more in zip(one, way)], some):
                    row = f"same {kept.text(chance, one)} = {kept.text(chance, other)}"
                    if max(len(part) for part in row.split("=")) <= 190:
                        words.append(self.check(desk, kept, one, other, row))
                self.check_questions(chance, desk, kept, some)
        self.assertEqual(set(words), {"yes", "no"})

    def check_questions(self, chance, desk, kept, purse):
        mart, text = kept.mart(), kept.text(chance, purse)
        sizes = wheels(mart)[0]
        self.assertEqual(desk.say("wheels"), " ".join(str(size) for size in sizes) if sizes else "none")
        self.assertEqual(desk.say("many"), str(many_worths(mart)))
        if len(text) <= 200:
            self.assertEqual(desk.say(f"span {text}"), str(span(mart, purse)))
            rest = left_of(stair(kept.swaps, len(purse)), purse)
            self.assertEqual(plain(mart, purse), rest)
            pairs = [(name, many) for name, many in zip(kept.names, rest) if many]
            self.assertEqual(desk.say(f"plain {text}"), shown(pairs))

    def test_just_one_sign_of_likeness_with_its_blanks(self):
        for word in ("same", "swap"):
            desk = desk_of("kind a", "kind b")
            for rest in ("", " ", "a", "a b", "a=b", "a =b", "a= b", "a\t= b", "a =\tb", "= a", "a =", "=", "a = b = a",
                         "a == b", "a = = b", "a = b=", "=a = b", "a =  = b", "a - b", "= ", " =", "a\u00a0=\u00a0b",
                         "2 a  =b", "x = y = z", "A=B", "0=0", "a =\u00a0b"):
                with self.subTest(ascii(rest)):
                    with self.assertRaises(NoRow) as caught:
                        desk.say(f"{word} {rest}")
                    self.assertIs(type(caught.exception), NoRow)
            # With both blanks it is a row, whatever the texts are.
            for rest in (" = ", "a = ", " = a", "  =  ", "a =  ", "  = a", "a b = a", "a = 2", "2 = a", "+ = -"):
                with self.subTest(ascii(rest)):
                    self.assertRaises(NoText, desk.say, f"{word} {rest}")
            self.assertEqual(asked(desk, ["wheels", "same 0 = 0"]), ["0 0", "yes"])


class TestPlain(unittest.TestCase):

    def test_told(self):
        desk = desk_of("kind b", "kind a", "kind c")
        for text, told in [("0", "0"), ("a", "a"), ("a + b", "b + a"), ("c - 2 a", "- 2 a + c"), ("a - a", "0"),
                           ("-c - b", "- b - c"), ("  3 c  ", "3 c"), ("a + a", "2 a")]:
            self.assertEqual(desk.say(f"plain {text}"), told)
        desk.say("swap b = 2 a")
        self.assertEqual(desk.say("plain b + c"), "2 a + c")
        self.assertEqual(desk.say("plain b - 2 a"), "0")
        desk.say("swap 5 a = 0")
        self.assertEqual(desk.say("plain 4 b - c"), "3 a - c")

    def test_of_no_kinds(self):
        self.assertEqual(Desk().say("plain 0"), "0")
        self.assertRaises(NoName, Desk().say, "plain a")

    def test_a_plain_purse_is_read_again(self):
        desk = desk_of("kind z", "kind y", "kind x", "swap 4 z + y = x", "swap 6 y = 4 x", "swap 9 x = 0")
        for text in ("7 z - 3 y + 20 x", "z + y + x", "- 100 z", "12345678901234567890 y"):
            told = desk.say(f"plain {text}")
            self.assertEqual(desk.say(f"plain {told}"), told)
            self.assertEqual(desk.say(f"same {text} = {told}")[:3], "yes")


class TestSpan(unittest.TestCase):

    def test_told(self):
        desk = desk_of("kind a", "kind b")
        for text, told in [("0", "1"), ("a", "0"), ("a - a", "1"), ("a + b", "0")]:
            self.assertEqual(desk.say(f"span {text}"), told)
        desk.say("swap 12 a = 0")
        for text, told in [("a", "12"), ("8 a", "3"), ("-9 a", "4"), ("24 a", "1"), ("a + b", "0"), ("5 a", "12")]:
            self.assertEqual(desk.say(f"span {text}"), told)
        self.assertEqual(Desk().say("span 0"), "1")


class TestWheelsAndMany(unittest.TestCase):

    def test_told(self):
        desk = Desk()
        self.assertEqual(asked(desk, ["wheels", "many"]), ["none", "1"])
        desk.say("kind a")
        self.assertEqual(asked(desk, ["wheels", "many"]), ["0", "0"])
        desk.say("swap 6 a = 0")
        self.assertEqual(asked(desk, ["wheels", "many"]), ["6", "6"])
        desk.say("kind b")
        self.assertEqual(asked(desk, ["wheels", "many"]), ["6 0", "0"])
        desk.say("swap 4 b = 0")
        self.assertEqual(asked(desk, ["wheels", "many"]), ["2 12", "24"])
        desk.say("swap b = 0")
        self.assertEqual(asked(desk, ["wheels", "many"]), ["6", "6"])
        desk.say("swap a = 0")
        self.assertEqual(asked(desk, ["wheels", "many"]), ["none", "1"])

    def test_of_great_numbers(self):
        number = 10 ** 60 - 1
        desk = desk_of(*[f"kind {name}" for name in NAMES], *[f"swap {number} {name} = 0" for name in NAMES])
        self.assertEqual(desk.say("many"), str(number ** 8))
        self.assertEqual(desk.say("wheels"), " ".join([str(number)] * 8))
        self.assertEqual(desk.say("span pin + b"), str(number))

    def test_alone(self):
        desk = desk_of("kind a")
        for row in ("wheels ", " wheels", "wheels a", "many ", " many", "many 0", "wheels\n", "many\n", "Wheels", "MANY",
                    "wheel", "manya", "wheels many", "wheels many ", "many many"):
            with self.subTest(row):
                self.assertRaises(NoRow, desk.say, row)


class TestNoRow(unittest.TestCase):

    def test_what_is_none_of_these(self):
        desk = desk_of("kind a", "kind b")
        for row in ("", " ", "a", "0", "kind", "swap", "same", "plain", "span", "Kind c", "KIND c", " kind c", "kinds c",
                    "kin c", "kind\tc", "kind\nc", "kindc", "kind=c", "plaina", "plain\ta", "plain=a", "spans a", " span a",
                    "swap\ta = b", "swop a = b", "a = b", " = ", "=", "say a", "help", "none", "ok", "yes", "no 1 by 2",
                    "plain\u00a0a", "sw ap a = b", "names", "readings a", "stock a", "\n", "\x00", "kind\u00a0c"):
            with self.subTest(ascii(row)):
                with self.assertRaises(NoRow) as caught:
                    desk.say(row)
                self.assertIs(type(caught.exception), NoRow)
        self.assertEqual(asked(desk, ["wheels", "same 0 = 0"]), ["0 0", "yes"])

    def test_things_that_are_no_texts(self):
        desk = desk_of("kind a")
        for thing in (None, 0, 1, True, False, 2.5, b"many", b"kind b", bytearray(b"many"), ["many"], ("many",),
                      ["kind", "b"], {"many": 1}, {"many"}, [], (), {}, object(), str, len, range(3), 1j, desk):
            with self.subTest(repr(thing)):
                with self.assertRaises(NoRow) as caught:
                    desk.say(thing)
                self.assertIs(type(caught.exception), NoRow)
        self.assertEqual(desk.say("wheels"), "0")


class TestNoText(unittest.TestCase):

    def test_a_text_that_is_none(self):
        desk = desk_of("kind a", "kind b")
        for text in ("", " ", "2", "2a", "a b", "+a", "a +", "a - - b", "A", "a1", "00", "- 0", "0 a", "abcdefghi", "a\t",
                     "a\n", "01 a", "1" * 61 + " a", "a" + " " * 200, "a + c + 2", "a.b", "\u0661 a"):
            with self.subTest(ascii(text)):
                for row in (f"plain {text}", f"span {text}", f"same {text} = a", f"same a = {text}",
                            f"swap {text} = a", f"swap a = {text}", f"swap {text} = {text}"):
                    with self.assertRaises(NoText) as caught:
                        desk.say(row)
                    self.assertIs(type(caught.exception), NoText)
        self.assertEqual(asked(desk, ["wheels", "same 0 = 0"]), ["0 0", "yes"])

    def test_a_row_may_be_longer_than_a_text(self):
        text = "a" + " " * 199
        desk = desk_of("kind a", f"swap {text} = {text}")
        self.assertEqual(desk.say(f"plain {text}"), "a")
        self.assertEqual(desk.say(f"same {text} = {text}"), "yes 0")

    def test_a_sign_of_likeness_in_a_text_alone(self):
        desk = desk_of("kind a")
        for row in ("plain a = a", "span a = a", "plain =", "span a=a"):
            self.assertRaises(NoText, desk.say, row)


class TestNoName(unittest.TestCase):

    def test_a_name_by_which_no_kind_stands(self):
        desk = desk_of("kind a", "kind b")
        for text in ("c", "a + c", "c - a", "2 c", "ab", "aa", "a + b + 3 abc - a", "kind"):
            with self.subTest(text):
                for row in (f"plain {text}", f"span {text}", f"same {text} = a", f"same a = {text}",
                            f"swap {text} = a", f"swap a = {text}"):
                    with self.assertRaises(NoName) as caught:
                        desk.say(row)
                    self.assertIs(type(caught.exception), NoName)
        self.assertEqual(asked(desk, ["wheels", "same 0 = 0"]), ["0 0", "yes"])

    def test_a_name_that_comes_to_nothing_is_none_of_the_list(self):
        desk = desk_of("kind a")
        self.assertEqual(read("a + c - c"), [("a", 1)])
        self.assertEqual(desk.say("plain a + c - c"), "a")
        self.assertEqual(desk.say("span c - c"), "1")
        self.assertEqual(desk.say("same c - c = d - d"), "yes")
        self.assertEqual(desk.say("swap 2 a + c - c = d - d"), "ok")
        self.assertEqual(desk.say("span a"), "2")
        self.assertEqual(Desk().say("plain c - c"), "0")

    def test_on_both_sides_each_is_its_own_list(self):
        self.assertRaises(NoName, desk_of("kind a").say, "swap c = c")
        self.assertRaises(NoName, desk_of("kind a").say, "same a + c = a + c")


class TestOrder(unittest.TestCase):

    def test_the_order_of_refusals(self):
        desk = full_desk()
        for row, refusal in [("swap nut = 2 = ", NoRow), ("swap nut =2", NoRow), ("same 2=nut", NoRow),
                             ("swap nut = 2", NoText), ("swap 2 = nut", NoText), ("same nut = 2", NoText),
                             ("same nut + 2 = nut", NoText), ("same 2 = nut", NoText), ("plain nut + 2", NoText),
                             ("span nut 2", NoText), ("swap nut = pin", NoName), ("swap pin = nut", NoName),
                             ("kind Pin", NoName), ("kind ", NoName), ("kind pin", Twice), ("kind b", Twice),
                             ("kind nut", TooMany), ("swap pin = nail", TooMany), ("swap 0 = 0", TooMany)]:
            with self.subTest(row):
                with self.assertRaises(refusal) as caught:
                    desk.say(row)
                self.assertIs(type(caught.exception), refusal)


class TestWhole(unittest.TestCase):

    def test_what_is_refused_changes_nothing(self):
        wrong = ["kind A", "kind ", "kind pin", "kind abcdefghi", "swap pin = nut", "swap nut = pin", "swap pin = 2",
                 "swap pin", "swap pin=nail", "same pin = nut", "plain nut", "span 2", "many ", "wheels 1", "", None, 7,
                 "swap pin = nail = bolt", "kind\tnut"]
        desk = desk_of("kind pin", "kind nail", "swap 6 pin = 4 nail", "swap 9 nail = 0")
        told = asked(desk)
        for row in wrong:
            self.assertRaises(ValueError, desk.say, row)
            self.assertEqual(asked(desk), told)
        self.assertEqual(asked(desk, ["kind nut", "plain nut", "swap nut = pin"]), ["ok", "nut", "ok"])
        desk = full_desk()
        told = asked(desk)
        for row in wrong + ["kind nut", "kind ninth", "swap pin = nail", "swap 0 = 0"]:
            self.assertRaises(ValueError, desk.say, row)
            self.assertEqual(asked(desk), told)

    def test_a_row_that_asks_is_answered_alike(self):
        desk = desk_of("kind pin", "kind nail", "kind bolt", "swap 6 pin = 4 nail", "swap 10 bolt - pin = 3 nail")
        first = asked(desk)
        for _ in range(3):
            self.assertEqual(asked(desk, QUESTIONS[::-1]), first[::-1])
            self.assertEqual(asked(desk), first)
        self.assertEqual(asked(desk_of("kind pin", "kind nail", "kind bolt", "swap 6 pin = 4 nail",
                                       "swap 10 bolt - pin = 3 nail")), first)
        desk.say("swap pin = 0")
        self.assertNotEqual(asked(desk), first)

    def test_two_desks_by_turns(self):
        one, other = Desk(), Desk()
        self.assertEqual(one.say("kind a"), "ok")
        self.assertEqual(other.say("wheels"), "none")
        self.assertEqual(other.say("kind b"), "ok")
        self.assertEqual(one.say("kind b"), "ok")
        self.assertEqual(one.say("swap 3 a = 0"), "ok")
        self.assertEqual(other.say("many"), "0")
        self.assertEqual(other.say("kind a"), "ok")
        self.assertEqual(other.say("swap 5 a = b"), "ok")
        self.assertEqual((one.say("plain 4 a + b"), other.say("plain 4 a + b")), ("a + b", "9 a"))
        self.assertEqual((one.say("span a"), other.say("span a")), ("3", "0"))
        self.assertEqual((one.say("wheels"), other.say("wheels")), ("3 0", "0"))

    def test_each_answer_is_a_text(self):
        desk = Desk()
        for row in ("kind a", "kind b", "swap 2 a = 4 b", "same a = b", "same 2 a = 4 b", "plain a", "span a", "wheels",
                    "many"):
            self.assertIs(type(desk.say(row)), str)


if __name__ == "__main__":
    unittest.main()
