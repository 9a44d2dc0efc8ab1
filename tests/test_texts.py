"""Promise [25]: texts, written and read back."""

import itertools
import random
import unittest

from samples import any_webs, mixed_webs, no_webs, refused, small_webs, strangers
from tierounds.errors import NoRound, NoRules, NoText, NoTurn, NoWeb
from tierounds.texts import (
    list_text, read_list, read_rules, read_turn, read_web, rules_text, turn_text, web_text)

READERS = (read_web, read_list, read_turn, read_rules)
FORTY_FIGURES = 10 ** 40 - 1
WEBS = [
    ("1", (1, [])), ("7", (7, [])), ("3 0>1 1>2", (3, [(0, 1), (1, 2)])), ("1 0>0 0>0", (1, [(0, 0), (0, 0)])),
    ("7 6>0 0>6 6>6", (7, [(6, 0), (0, 6), (6, 6)])), ("2" + " 0>1" * 20, (2, [(0, 1)] * 20)),
]
LISTS = [
    ("-", []), ("0", [0]), ("0 2 1", [0, 2, 1]), ("10 100 0", [10, 100, 0]), ("5 5", [5, 5]),
    ("9" * 40, [FORTY_FIGURES]), (" ".join(["7"] * 40), [7] * 40), ("1" + "0" * 39 + " 0", [10 ** 39, 0]),
]
TURNS = [
    ("1-2 2-3", (1, 2, 2, 3)), ("0-0 0-0", (0, 0, 0, 0)), ("10-9 8-7", (10, 9, 8, 7)),
    ("1-3 4-6", (1, 3, 4, 6)), ("9" * 40 + "-0 0-" + "9" * 40, (FORTY_FIGURES, 0, 0, FORTY_FIGURES)),
]
RULES = [
    ("-", ([], [])), ("0+1", ([(0, 1)], [])), ("0!1", ([], [(0, 1)])), ("1+2 0+1 3!3 2!0", ([(1, 2), (0, 1)], [(3, 3), (2, 0)])),
    ("0+0 0+0 0!0 0!0", ([(0, 0)] * 2, [(0, 0)] * 2)), ("10+200 30!0", ([(10, 200)], [(30, 0)])),
    (" ".join(["1+2"] * 40 + ["2!1"] * 40), ([(1, 2)] * 40, [(2, 1)] * 40)),
    ("9" * 40 + "+0 0!" + "9" * 40, ([(FORTY_FIGURES, 0)], [(0, FORTY_FIGURES)])),
]


def exactly(test, thing, expected):
    """Alike, and of the same kinds all through."""
    test.assertEqual(thing, expected)
    test.assertEqual(repr(thing), repr(expected))


def no_numbers():
    """The strangers that are no whole numbers from 0 on, so not written anywhere."""
    return [thing for thing in strangers() if not (type(thing) is int and thing >= 0)]


def spoilt(text):
    """Texts that are close to the text, and differ in something that is never written."""
    yield from (" " + text, text + " ", text + "\n", "\n" + text, text + "\t", "\t" + text, text + "\r", "0" + text)
    yield from ("+" + text, "-" + text, text + "-", text + ".", text + ",", text + "%", text + "\u00b2", "\u0661" + text)
    for at, sign in enumerate(text):
        if sign == " ":
            for between in ("  ", "\t", "\n", "\u00a0", ", ", ",", " \n", " - ", " 0"):
                yield text[:at] + between + text[at + 1:]
        elif sign not in "0123456789":
            for between in (" " + sign, sign + " ", sign + sign, "=", "~", "", sign + "-", sign + "+"):
                yield text[:at] + between + text[at + 1:]
        elif at == 0 or text[at - 1] not in "0123456789":
            for ahead in ("0", "00", "-", "+", "_", "x"):
                yield text[:at] + ahead + text[at:]


class Written(unittest.TestCase):
    def test_each_text_and_back(self):
        for write, read, samples in [
            (web_text, read_web, WEBS), (list_text, read_list, LISTS), (turn_text, read_turn, TURNS),
            (rules_text, read_rules, RULES),
        ]:
            for text, thing in samples:
                exactly(self, write(thing), text)
                exactly(self, read(text), thing)

    def test_webs_and_back(self):
        for web in itertools.chain(small_webs(), mixed_webs(110, 200, 20), any_webs(111, 100, 20)):
            text = web_text(web)
            exactly(self, read_web(text), web)
            self.assertEqual(text.split(" "), [str(web[0])] + [str(a) + ">" + str(b) for a, b in web[1]])

    def test_others_and_back(self):
        chance = random.Random(112)
        for _ in range(300):
            most = chance.choice((3, 20, 10 ** 40))
            numbers = [chance.randrange(most) for _ in range(chance.randrange(41))]
            exactly(self, read_list(list_text(numbers)), numbers)
            turn = tuple(chance.randrange(most) for _ in range(4))
            exactly(self, read_turn(turn_text(turn)), turn)
            pairs = [(chance.randrange(most), chance.randrange(most)) for _ in range(chance.randrange(41))]
            cut = chance.randrange(len(pairs) + 1)
            rules = (pairs[:cut], pairs[cut:])
            exactly(self, read_rules(rules_text(rules)), rules)

    def test_no_webs(self):
        for web in no_webs() + strangers():
            refused(self, NoWeb, web_text, web)

    def test_no_lists(self):
        for thing in [
            (), (0,), (0, 1), [0] * 41, list(range(41)), [0, -1], [-1], [True], [0, False], ["0"], [None], [[0]], [(0,)],
            {}, {0: 0}, "", "0", "-", b"0", None, 0, set(), {0}, range(3), [0, "1"], [0] * 39 + [None],
        ] + [[0, thing] for thing in no_numbers()] + strangers():
            refused(self, NoRound, list_text, thing)

    def test_no_turns(self):
        for thing in [
            [1, 2, 3, 4], (1, 2, 3), (1, 2, 3, 4, 5), (), (1, 2, 3, -1), (-1, 2, 3, 4), (True, 2, 3, 4), (1, 2, 3, False),
            ("1", 2, 3, 4), (1, 2, 3, None), ((1, 2), (3, 4)), ((1,), 2, 3, 4), "1-2 3-4", {1: 2, 3: 4}, b"1234", None, 0,
            {1: 0, 2: 0, 3: 0, 4: 0}, range(4),
        ] + [(1, 2, 3, thing) for thing in no_numbers()] + strangers():
            refused(self, NoTurn, turn_text, thing)

    def test_no_rules(self):
        pairs = [
            (0,), (0, 1, 2), (), [0, 1], (True, 1), (0, False), (0, -1), (-1, 0), ("0", 1), (0, None), (0, (1,)), "01",
            None, 0, {0: 1, 2: 3}, b"01",
        ] + [(0, thing) for thing in no_numbers()] + strangers()
        lists = [((0, 1),), (), None, {}, {(0, 1): 0}, "", "-", 0, (0, 1), [(0, 1)] * 41] + [[pair] for pair in pairs]
        for thing in [
            [[], []], [[(0, 1)], []], (), ([],), ([], [], []), ([(0, 1)],), (0, 1), {0: [], 1: []}, "", "-", None, [], 0,
        ] + strangers() + [(one, []) for one in lists] + [([], one) for one in lists]:
            refused(self, NoRules, rules_text, thing)


class Read(unittest.TestCase):
    def test_no_text_at_all(self):
        for read in READERS:
            for thing in strangers() + [[], [0], b"1", b"-", b"1-2 3-4", ["1"], ("-",), 1, 0, (1, []), ([], [])]:
                if isinstance(thing, str):
                    continue
                refused(self, NoText, read, thing)
            for text in ("", " ", "  ", "\n", "\t", "x", ".", "+", "!", ">", "--", "- -", " -", "- ", "none", "\x00"):
                refused(self, NoText, read, text)

    def test_spoilt(self):
        checked = 0
        for write, read, samples in [
            (web_text, read_web, WEBS), (list_text, read_list, LISTS), (turn_text, read_turn, TURNS),
            (rules_text, read_rules, RULES),
        ]:
            right = {text for text, thing in samples}
            for text in right:
                for other in spoilt(text):
                    self.assertNotIn(other, right)
                    checked += 1
                    refused(self, NoText, read, other)
        self.assertGreater(checked, 1500)

    def test_webs(self):
        for text in (
            "-", "0", "8", "10", "01", "1 0>1", "2 0>2", "2 2>0", "7 0>7", "8 0>1", "0 0>0", "2 0>1 1>2", "2" + " 0>1" * 21,
            "1" + " 0>0" * 40, "2 01>0", "2 0>01", "2 00>1", "2 0>", "2 >0", "2 >", "2 0", "2 0 1", "2 0>1>0", "2 0>>1",
            "2 0-1", "2 0+1", "2 0<1", "2 (0, 1)", "0>1", "0>1 2", "2 0>1 1", "2 -", "2 0>-1", "-2 0>1", "+2", "2.0", "2,",
            "9" * 40, "1" * 300, "2 " + "1" * 40 + ">0", "2 0>1,1>0", "2 0>1\n1>0", "2 0>1\t1>0", "2 0 >1", "2 0> 1", " ",
            "2 0>1  1>0", " 2 0>1", "2 0>1 ", "2\n", "2 0>1\n", "two", "2 a>b", "2 \u0660>1", "\u0662",
        ):
            refused(self, NoText, read_web, text)

    def test_lists(self):
        for text in (
            "00", "01", "0 01", "0 00", "-0", "+0", "-1", "0 -", "- 0", "0 - 1", "0,1", "0, 1", "0;1", "0.0", "1e3", "0x1",
            "[0]", "[]", "[0, 1]", " ".join(["0"] * 41), " ".join(["0"] * 60), "0  1", " 0", "0 ", "0\n", "0\n1", "0\t1",
            "0 1\t", "1_0", "one", "\u0661", "\u00b2", "\uff11", "0\u00a01", "0" * 40, "0" + "1" * 39, "0>1", "0+1", "1-2 3-4",
        ):
            refused(self, NoText, read_list, text)
        self.assertEqual(read_list(" ".join(["0"] * 40)), [0] * 40)

    def test_long_texts_of_figures(self):
        self.assertEqual(read_list("1" * 60), [int("1" * 60)])
        self.assertEqual(read_list("1" + "0" * 6000), [10 ** 6000])
        refused(self, NoText, read_web, "1" * 6000)

    def test_turns(self):
        for text in (
            "-", "1-2", "1-2 3", "1 2-3", "1-2 3-4 5-6", "1-2-3 4-5", "1-2 3-", "-1 2-3", "1- 2-3", "1-2  3-4", " 1-2 3-4",
            "1-2 3-4 ", "1-2 3-4\n", "1-2\t3-4", "1-2\n3-4", "01-2 3-4", "1-02 3-4", "1-2 3-04", "1--2 3-4", "1-2 -3-4",
            "+1-2 3-4", "1+2 3+4", "1 2 3 4", "1-2-3-4", "1-2,3-4", "(1, 2, 3, 4)", "1-2 3-x", "1_1-2 3-4", "1-2 3-4-",
            "1-2 3-\u0664", "0-00 0-0", "1 - 2 3 - 4", "1-2 3 -4", "", "- -",
        ):
            refused(self, NoText, read_turn, text)
        self.assertEqual(read_turn("0-0 0-0"), (0, 0, 0, 0))
        self.assertEqual(read_turn("20-3 100-0"), (20, 3, 100, 0))

    def test_rules(self):
        for text in (
            "0!1 1+2", "1+2 0!1 1+2", "0!1 0!2 3+4", "0+1 -", "- 0+1", "-+-", "0+", "+0", "0!", "!0", "+", "!", "0", "0 1",
            "0-1", "0>1", "0+1+2", "0!1!2", "0+1!2", "0!1+2", "0++1", "0!!1", "0+!1", "00+1", "0+01", "0!01", "01!0",
            "0 + 1", "0+ 1", "0 +1", "0+1  1+2", " 0+1", "0+1 ", "0+1\n", "0+1\n1+2", "0+1\t1+2", "0+1,1+2", "-0+1",
            "0+-1", "a+b", "0+1 1", "0+\u0661", " ".join(["0+1"] * 41), " ".join(["0!1"] * 41),
            " ".join(["0+1"] * 41 + ["0!1"]), " ".join(["0+1"] + ["0!1"] * 41), "([], [])", "0+1 0!1 0+1",
        ):
            refused(self, NoText, read_rules, text)
        self.assertEqual(read_rules("0+1 1+2 0!1"), ([(0, 1), (1, 2)], [(0, 1)]))

    def test_read_lists_are_new(self):
        for read, text in ((read_web, "2 0>1"), (read_list, "-"), (read_list, "0 1"), (read_rules, "-"), (read_rules, "0+1")):
            told, again = read(text), read(text)
            lists = [part for part in (told, again) if isinstance(part, list)]
            lists += [part for thing in (told, again) for part in thing if isinstance(part, list)]
            self.assertEqual(len({id(part) for part in lists}), len(lists))


if __name__ == "__main__":
    unittest.main()
